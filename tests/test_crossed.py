"""Least changes: point [31] and the heading fewchairs/crossed.py."""

import itertools
import unittest

from fewchairs.crossed import least_changes
from fewchairs.customs import Custom
from fewchairs.errors import BadCustom
from fewchairs.houses import House
from fewchairs.look import is_free
from tests.helpers import MANY, Case


def with_threshold(length, keep):
    return [1 if at <= keep else 0 for at in range(length)]


def differences(one, other):
    return sum(x != y for x, y in zip(one, other))


def most_pairs(answers):
    """The greatest number of pairs, found by looking for a partner for each 1 again and again."""
    partner = {}

    def found(j, tried):
        for i in range(j):
            if answers[i] == 0 and i not in tried:
                tried.add(i)
                if i not in partner or found(partner[i], tried):
                    partner[i] = j
                    return True
        return False

    return sum(found(j, set()) for j in range(len(answers)) if answers[j] == 1)


class LeastChanges(Case):
    def check_pairs(self, answers, number, pairs):
        self.assertEqual(len(pairs), number)
        indexes = [at for pair in pairs for at in pair]
        self.assertEqual(len(set(indexes)), len(indexes))
        for i, j in pairs:
            self.assertLess(i, j)
            self.assertEqual((answers[i], answers[j]), (0, 1))
        self.assertTrue(all(isinstance(pair, tuple) for pair in pairs))

    def test_example(self):
        self.assertEqual(least_changes([1, 0, 1, 0]), (1, 0, [(1, 2)]))

    def test_three_answers(self):
        self.assertEqual(least_changes([1, 0, 0]), (0, 0, []))
        self.assertEqual(least_changes([1, 1, 0]), (0, 1, []))

    def test_all_short_lists(self):
        for length in range(3, 12):
            for inner in itertools.product((0, 1), repeat=length - 2):
                answers = [1, *inner, 0]
                numbers = [differences(answers, with_threshold(length, keep)) for keep in range(length - 1)]
                number, keep, pairs = least_changes(answers)
                self.assertEqual((number, keep), (min(numbers), numbers.index(min(numbers))))
                self.check_pairs(answers, number, pairs)
                if length < 10:
                    self.assertEqual(number, most_pairs(answers))

    def test_no_changes_for_order_free_customs_alone(self):
        for chairs in range(1, 6):
            for inner in itertools.product((0, 1), repeat=chairs):
                answers = [1, *inner, 0]
                number, _, _ = least_changes(answers)
                self.assertEqual(number == 0, is_free(Custom(House(2, chairs), answers)))

    def test_2000_answers(self):
        answers = [1] + [0] * 999 + [1] * 999 + [0]
        number, keep, pairs = least_changes(answers)
        self.assertEqual((number, keep), (999, 0))
        self.check_pairs(answers, number, pairs)
        answers = [1, 0] * 1000
        number, keep, pairs = least_changes(answers)
        self.assertEqual((number, keep), (999, 0))
        self.check_pairs(answers, number, pairs)
        answers = [1] * 1500 + [0, 1] * 100 + [0] * 300
        number, keep, pairs = least_changes(answers)
        self.assertEqual((number, keep), (100, 1499))
        self.check_pairs(answers, number, pairs)

    def test_the_argument_stays(self):
        answers = [1, 0, 1, 0]
        least_changes(answers)[2].clear()
        self.assertEqual(answers, [1, 0, 1, 0])
        self.assertEqual(least_changes(answers), (1, 0, [(1, 2)]))


class WrongAnswers(Case):
    def test_too_few(self):
        for answers in [[], [1], [1, 0], [7, 7], [0], [0, 1]]:
            self.fails(BadCustom, {"at": len(answers)}, least_changes, answers)

    def test_the_first_wrong_answer(self):
        for answers, at in [([0, 1, 0], 0), ([2, 1, 0], 0), ([-1, 0, 0], 0), ([1, 2, 0], 1), ([1, -1, 1], 1),
                            ([1, 0, 1], 2), ([1, 1, 1], 2), ([1, 0, 2], 2), ([0, 0, 1], 0), ([1, 0, MANY, 1], 2),
                            ([1, 0, 1, 0, 1], 4), ([1, 0, 1, 3, 1], 3)]:
            before = list(answers)
            self.fails(BadCustom, {"at": at}, least_changes, answers)
            self.assertEqual(answers, before)


if __name__ == "__main__":
    unittest.main()
