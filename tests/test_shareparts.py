"""Two shares compared: points [34] and [35], and the heading fewchairs/shareparts.py."""

import itertools
import unittest

from fewchairs.errors import BadKind, WrongHouse
from fewchairs.shareparts import fewer_crowd, parting
from fewchairs.shares import Shares
from tests.helpers import MANY, Case, all_crowds, all_shares


def blocks(length, one, other):
    """A word of 200 stretches of that length."""
    return tuple((one if at % 2 == 0 else other, length) for at in range(200))


LONG = MANY // 1000
GREAT = Shares((200 * LONG, 200 * LONG, 200 * LONG), (blocks(LONG, 1, 2), blocks(LONG, 0, 2), blocks(LONG, 1, 0)))


class Parting(Case):
    def check(self, one, other):
        meeting = parting(one, other)
        self.assertEqual(sum(meeting), one.chairs + 1)
        self.assertNotEqual(one.goes(meeting), other.goes(meeting))
        self.assertIsInstance(meeting, tuple)

    def test_all_small_shares(self):
        for chairs in (1, 2, 3):
            for one, other in itertools.product(all_shares(chairs), repeat=2):
                if one == other:
                    self.assertIsNone(parting(one, other))
                else:
                    self.check(one, other)

    def test_great_shares(self):
        self.assertIsNone(parting(GREAT, Shares(GREAT.keep, GREAT.words)))
        for kind in range(3):
            word = list(GREAT.words[kind])
            for at in (0, 1, 57, 150):
                changed = list(word)
                changed[at] = (word[at][0], LONG + 1)
                changed[at + 2] = (word[at + 2][0], LONG - 1)
                words = GREAT.words[:kind] + (tuple(changed),) + GREAT.words[kind + 1:]
                self.check(GREAT, Shares(GREAT.keep, words))
                self.check(Shares(GREAT.keep, words), GREAT)
        self.check(GREAT, Shares((600 * LONG, 0, 0), (((1, 600 * LONG),), (), ())))

    def test_words_that_differ_in_the_first_or_the_last_letter(self):
        one = Shares((MANY, 0, 0), (((1, MANY),), (), ()))
        for word in [((2, MANY),), ((2, 1), (1, MANY - 1)), ((1, MANY - 1), (2, 1)), ((1, 5), (2, 1), (1, MANY - 6))]:
            other = Shares((MANY, 0, 0), (word, (), ()))
            self.check(one, other)
            self.check(other, one)

    def test_other_numbers_of_chairs(self):
        for other in [Shares.spelled([1], [0], []), Shares.spelled([1], [0], [0, 0]), GREAT]:
            self.fails(WrongHouse, {"what": "chairs"}, parting, Shares.spelled([1], [0], [1]), other)


class FewerCrowd(Case):
    def check(self, one, other, kind, crowd):
        self.assertLess(one.end(crowd)[kind], other.end(crowd)[kind])
        self.assertIsInstance(crowd, tuple)
        self.assertTrue(all(0 <= count <= 4 * (one.chairs + other.chairs) for count in crowd))

    def test_small_shares_over_all_crowds(self):
        every = all_shares(1) + all_shares(2) + all_shares(3)
        crowds = all_crowds((7, 7, 7))
        ends = [[shares.end(crowd) for crowd in crowds] for shares in every]
        pairs = [(i, j) for i in range(len(every)) for j in range(len(every))]
        told = set()
        for i, j in pairs[::7]:
            for kind in range(3):
                fewer = any(one[kind] < other[kind] for one, other in zip(ends[i], ends[j]))
                crowd = fewer_crowd(every[i], every[j], kind)
                told.add(crowd is None)
                if fewer:
                    self.check(every[i], every[j], kind, crowd)
                else:
                    self.assertIsNone(crowd)
        self.assertEqual(told, {True, False})

    def test_equal_shares(self):
        for kind in range(3):
            self.assertIsNone(fewer_crowd(GREAT, GREAT, kind))

    def test_fewer_chairs(self):
        small = Shares.spelled([1], [0], [])
        for kind in range(3):
            self.check(small, GREAT, kind, fewer_crowd(small, GREAT, kind))
            self.assertIsNone(fewer_crowd(GREAT, small, kind))

    def test_great_shares_that_differ_within_one_word(self):
        word = list(GREAT.words[1])
        for at in (0, 100, 197):
            changed = list(word)
            changed[at] = (word[at][0], LONG + 1)
            changed[at + 2] = (word[at + 2][0], LONG - 1)
            other = Shares(GREAT.keep, (GREAT.words[0], tuple(changed), GREAT.words[2]))
            gaining = word[at][0]
            self.assertIsNone(fewer_crowd(GREAT, other, 1))
            self.check(GREAT, other, gaining, fewer_crowd(GREAT, other, gaining))
            self.assertIsNone(fewer_crowd(GREAT, other, 2 - gaining))
            self.check(other, GREAT, 2 - gaining, fewer_crowd(other, GREAT, 2 - gaining))
            self.assertIsNone(fewer_crowd(other, GREAT, gaining))

    def test_what_two_leave_may_part_in_the_middle_alone(self):
        # Both end alike, and at the front the first ones leave more.
        one = Shares((6, 0, 0), (((1, 2), (2, 3), (1, 1)), (), ()))
        other = Shares((6, 0, 0), (((2, 1), (1, 3), (2, 2)), (), ()))
        for kind in (1, 2):
            self.check(one, other, kind, fewer_crowd(one, other, kind))
            self.check(other, one, kind, fewer_crowd(other, one, kind))

    def test_wrong_kinds(self):
        for kind in [-1, 3, MANY]:
            self.fails(BadKind, {"kind": kind}, fewer_crowd, GREAT, Shares.spelled([1], [], []), kind)


if __name__ == "__main__":
    unittest.main()
