"""Shares: points [32] and [33], and the heading fewchairs/shares.py."""

import itertools
import unittest

from fewchairs.customs import Custom
from fewchairs.errors import BadCrowd, BadKind, BadNumber, BadShares, TooLarge
from fewchairs.houses import House
from fewchairs.look import is_free
from fewchairs.rules import Rule
from fewchairs.shares import Shares
from tests.helpers import MANY, Case, all_crowds, all_shares

SMALL = Shares.spelled([1], [0], [])
GREAT = Shares((MANY - 5, 3, 2), (((1, MANY - 10), (2, 1), (1, 4)), ((0, 1), (2, 2)), ((1, 2),)))


def plain_end(keep, words, crowd):
    """The end by the words of [33], with the words as lists of letters."""
    chairs = sum(keep)
    if sum(crowd) < chairs:
        return crowd
    lacks = [max(0, count - present) for count, present in zip(keep, crowd)]
    lacking = [kind for kind in range(3) if lacks[kind]]
    if not lacking:
        return keep
    end = [0, 0, 0]
    for kind in lacking:
        end[kind] = crowd[kind]
    others = [kind for kind in range(3) if kind not in lacking]
    if len(lacking) == 2:
        end[others[0]] = chairs - sum(end)
        return tuple(end)
    x = lacking[0]
    for y, z in [others, others[::-1]]:
        gained = words[x][:lacks[x]].count(y)
        end[y] = min(max(keep[y] + gained, chairs - crowd[x] - crowd[z]), crowd[y])
    return tuple(end)


def alternating(stretches, one, other):
    """A list of so many letters, no two neighbours equal."""
    return [one if at % 2 == 0 else other for at in range(stretches)]


class Making(Case):
    def test_example(self):
        self.assertEqual(SMALL.keep, (1, 1, 0))
        self.assertEqual(SMALL.words, (((1, 1),), ((0, 1),), ()))
        self.assertEqual(SMALL.chairs, 2)

    def test_great_shares(self):
        self.assertEqual(GREAT.chairs, MANY)
        self.assertEqual(Shares((0, 0, MANY), ((), (), ((0, MANY),))).chairs, MANY)

    def test_wrong_keep(self):
        none = ((), (), ())
        for keep in [(0, 0, 0), (-1, 1, 1), (1, -1, 0), (2, 0, -1), (1, 1), (1,), (), (1, 1, 1, 1),
                     (MANY, 1, 0), (MANY, MANY, MANY), (0, 0, MANY + 1), (-MANY, MANY, 1)]:
            self.fails(BadShares, {"what": "keep"}, Shares, keep, none)
            self.fails(BadShares, {"what": "keep"}, Shares, keep, ())

    def test_wrong_words(self):
        good = (((1, 1),), ((0, 1),), ())
        Shares((1, 1, 0), good)
        for at, word in [(0, ((0, 1),)), (0, ((3, 1),)), (0, ((-1, 1),)), (1, ((1, 1),)), (2, ((2, 0),)),
                         (0, ()), (0, ((1, 2),)), (0, ((1, 0),)), (0, ((1, -1),)), (0, ((1, 1), (2, 0))),
                         (0, ((1, 2), (2, -1))), (2, ((0, 1),)), (2, ((0, 0),)), (0, ((1,),)), (0, ((),)),
                         (0, ((1, 1, 1),)), (2, ((0, 1), (1, -1)))]:
            words = good[:at] + (word,) + good[at + 1:]
            self.fails(BadShares, {"what": "words"}, Shares, (1, 1, 0), words)
        for words in [(), good[:2], good + ((),), (good[0],)]:
            self.fails(BadShares, {"what": "words"}, Shares, (1, 1, 0), words)

    def test_neighbouring_stretches_have_different_kinds(self):
        Shares((3, 0, 0), (((1, 1), (2, 1), (1, 1)), (), ()))
        for word in [((1, 1), (1, 2)), ((1, 2), (1, 1)), ((2, 1), (1, 1), (1, 1)), ((1, 1), (1, 1), (2, 1))]:
            self.fails(BadShares, {"what": "words"}, Shares, (3, 0, 0), (word, (), ()))

    def test_at_most_200_stretches(self):
        word = tuple((letter, 5) for letter in alternating(200, 0, 1))
        self.assertEqual(Shares((0, 0, 1000), ((), (), word)).words[2], word)
        longer = word + ((0, 5),)
        self.fails(BadShares, {"what": "words"}, Shares, (0, 0, 1005), ((), (), longer))

    def test_equal_shares(self):
        self.assertTrue(SMALL == Shares((1, 1, 0), (((1, 1),), ((0, 1),), ())))
        self.assertFalse(SMALL != Shares((1, 1, 0), (((1, 1),), ((0, 1),), ())))
        self.assertFalse(SMALL == Shares((1, 1, 0), (((2, 1),), ((0, 1),), ())))
        self.assertFalse(SMALL == Shares((2, 0, 0), (((1, 2),), (), ())))
        self.assertFalse(SMALL == (SMALL.keep, SMALL.words))


class Spelled(Case):
    def test_letters_there_and_back(self):
        for chairs in range(1, 4):
            for shares in all_shares(chairs):
                words = [shares.letters(kind) for kind in range(3)]
                self.assertTrue(Shares.spelled(*words) == shares)
                self.assertEqual(shares.keep, tuple(len(word) for word in words))
                self.assertEqual(shares.chairs, chairs)

    def test_stretches(self):
        shares = Shares.spelled([1, 1, 2, 1], [], [0, 1, 1])
        self.assertEqual(shares.words, (((1, 2), (2, 1), (1, 1)), (), ((0, 1), (1, 2))))
        self.assertEqual(Shares.spelled([], [2, 0, 0, 0, 0, 2, 2, 2], []).words[1], ((2, 1), (0, 4), (2, 3)))

    def test_no_letter_at_all(self):
        self.fails(BadShares, {"what": "keep"}, Shares.spelled, [], [], [])

    def test_wrong_letters(self):
        for words in [([0], [], []), ([], [1], []), ([], [], [2]), ([3], [], []), ([1, -1], [], []),
                      ([1], [0, 1], [0]), ([1, 1, 2], [0, 2], [0, 1, 1, 2])]:
            before = [list(word) for word in words]
            self.fails(BadShares, {"what": "words"}, Shares.spelled, *words)
            self.assertEqual(list(words), before)

    def test_200_and_201_stretches(self):
        shares = Shares.spelled([], alternating(200, 0, 2), [])
        self.assertEqual(len(shares.words[1]), 200)
        self.fails(BadShares, {"what": "words"}, Shares.spelled, [], alternating(201, 0, 2), [])

    def test_changed_lists_change_nothing(self):
        word = [1, 2]
        shares = Shares.spelled(word, [0], [])
        word[0] = 2
        word.append(1)
        self.assertEqual(shares.letters(0), [1, 2])


class Letters(Case):
    def test_1000_and_1001_letters(self):
        shares = Shares((1001, 1000, 0), (((1, 1001),), ((0, 400), (2, 600)), ()))
        self.assertEqual(shares.letters(1), [0] * 400 + [2] * 600)
        self.assertEqual(shares.letters(2), [])
        self.fails(TooLarge, {"size": 1001}, shares.letters, 0)
        self.fails(TooLarge, {"size": MANY - 5}, GREAT.letters, 0)

    def test_wrong_kinds(self):
        for kind in [-1, 3, MANY]:
            self.fails(BadKind, {"kind": kind}, GREAT.letters, kind)

    def test_a_changed_list_changes_nothing(self):
        SMALL.letters(0).append(2)
        self.assertEqual(SMALL.letters(0), [1])


class Gains(Case):
    def test_all_small_shares(self):
        for chairs in range(1, 4):
            for shares in all_shares(chairs):
                for kind in range(3):
                    letters = shares.letters(kind)
                    for lacking in range(len(letters) + 1):
                        expected = tuple(letters[:lacking].count(letter) for letter in range(3))
                        self.assertEqual(shares.gains(kind, lacking), expected)

    def test_great_shares(self):
        self.assertEqual(GREAT.gains(0, 0), (0, 0, 0))
        self.assertEqual(GREAT.gains(0, MANY - 10), (0, MANY - 10, 0))
        self.assertEqual(GREAT.gains(0, MANY - 9), (0, MANY - 10, 1))
        self.assertEqual(GREAT.gains(0, MANY - 7), (0, MANY - 8, 1))
        self.assertEqual(GREAT.gains(0, MANY - 5), (0, MANY - 6, 1))
        self.assertEqual(GREAT.gains(1, 2), (1, 0, 1))

    def test_wrong_numbers(self):
        for kind in [-1, 3, MANY]:
            self.fails(BadKind, {"kind": kind}, SMALL.gains, kind, -1)
        for kind, lacking in [(0, -1), (0, 2), (2, 1), (2, -1), (1, MANY)]:
            self.fails(BadNumber, {"number": lacking}, SMALL.gains, kind, lacking)


class Ends(Case):
    def test_example(self):
        self.assertEqual(SMALL.end((0, 5, 5)), (0, 2, 0))

    def test_by_the_words_of_33(self):
        for chairs in range(1, 4):
            for shares in all_shares(chairs):
                words = [shares.letters(kind) for kind in range(3)]
                for crowd in all_crowds((chairs + 1,) * 3):
                    end = shares.end(crowd)
                    self.assertEqual(end, plain_end(shares.keep, words, crowd))
                    self.assertEqual(sum(end), min(chairs, sum(crowd)))

    def test_great_counts(self):
        self.assertEqual(GREAT.end((MANY, MANY, MANY)), GREAT.keep)
        self.assertEqual(GREAT.end((MANY - 8, MANY, 10 ** 40)), (MANY - 8, 6, 2))
        self.assertEqual(GREAT.end((MANY - 8, 4, MANY)), (MANY - 8, 4, 4))
        self.assertEqual(GREAT.end((3, MANY, MANY)), (3, MANY - 6, 3))
        self.assertEqual(GREAT.end((3, MANY, 2)), (3, MANY - 5, 2))
        self.assertEqual(GREAT.end((MANY, 1, MANY)), (MANY - 4, 1, 3))
        self.assertEqual(GREAT.end((MANY, 1, 1)), (MANY - 2, 1, 1))
        self.assertEqual(GREAT.end((3, 4, 5)), (3, 4, 5))
        self.assertEqual(GREAT.end((0, 0, 0)), (0, 0, 0))

    def test_wrong_crowds(self):
        for crowd in [(-1, 5, 5), (5, -1, 5), (5, 5, -1), (5, 5), (5,), (), (5, 5, 5, 5)]:
            self.fails(BadCrowd, {"crowd": crowd}, SMALL.end, crowd)


class Goes(Case):
    def test_example(self):
        self.assertEqual(SMALL.goes((1, 1, 1)), 2)

    def test_who_has_one_more_than_the_end(self):
        for chairs in range(1, 4):
            for shares in all_shares(chairs):
                for meeting in House(3, chairs).meetings():
                    kind = shares.goes(meeting)
                    end = shares.end(meeting)
                    self.assertEqual(end, tuple(count - (at == kind) for at, count in enumerate(meeting)))

    def test_the_ends_are_those_of_the_custom(self):
        for chairs in range(1, 4):
            house = House(3, chairs)
            for shares in all_shares(chairs)[::chairs]:
                custom = Custom(house, [shares.goes(meeting) for meeting in house.meetings()])
                self.assertTrue(is_free(custom))
                rule = Rule(custom)
                for crowd in all_crowds((chairs + 1,) * 3):
                    self.assertEqual(rule.end(crowd), shares.end(crowd))

    def test_great_meetings(self):
        self.assertEqual(GREAT.goes((MANY - 8, 7, 2)), 1)
        self.assertEqual(GREAT.goes((MANY - 8, 6, 3)), 2)
        self.assertEqual(GREAT.goes((MANY - 4, 3, 2)), 0)
        self.assertEqual(GREAT.goes((0, MANY + 1, 0)), 1)

    def test_wrong_meetings(self):
        for meeting in [(1, 1, 0), (2, 1, 1), (4, -1, 0), (-1, 2, 2), (1, 2), (3,), (), (1, 1, 1, 0), (0, 0, 0)]:
            self.fails(BadCrowd, {"crowd": meeting}, SMALL.goes, meeting)


class AllShares(Case):
    def test_how_many_there_are_for_the_tests(self):
        for chairs in range(1, 4):
            every = all_shares(chairs)
            self.assertEqual(len(every), (chairs + 1) * (chairs + 2) // 2 * 2 ** chairs)
            self.assertEqual(len({(shares.keep, shares.words) for shares in every}), len(every))
            answers = [tuple(shares.goes(meeting) for meeting in House(3, chairs).meetings()) for shares in every]
            for one, other in itertools.combinations(answers, 2):
                self.assertNotEqual(one, other)


if __name__ == "__main__":
    unittest.main()
