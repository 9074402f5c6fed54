"""Crowds and rows: point [5] and the heading fewchairs/crowds.py."""

import itertools
import unittest

from fewchairs.crowds import (crowd_of, greater, kinds_in, lesser, minus, part_list, parts, plus, row_of, size,
                              within)
from fewchairs.errors import BadCrowd, BadKind, TooLarge
from tests.helpers import MANY, Case, all_crowds

PAIRS = [(first, second) for first in all_crowds((2, 1, 2)) for second in all_crowds((2, 1, 2))]


class Counts(Case):
    def test_size(self):
        self.assertEqual(size((0,)), 0)
        self.assertEqual(size((2, 0, 3)), 5)
        self.assertEqual(size((MANY, MANY, 1)), 2 * MANY + 1)
        self.assertEqual(size((10 ** 40, 1)), 10 ** 40 + 1)

    def test_plus(self):
        self.assertEqual(plus((1, 2, 0), (3, 0, 0)), (4, 2, 0))
        self.assertEqual(plus((10 ** 40,), (1,)), (10 ** 40 + 1,))
        for first, second in PAIRS:
            self.assertEqual(plus(first, second), tuple(a + b for a, b in zip(first, second)))

    def test_minus(self):
        self.assertEqual(minus((4, 2, 0), (3, 2, 0)), (1, 0, 0))
        self.assertEqual(minus((10 ** 40,), (1,)), (10 ** 40 - 1,))

    def test_minus_of_every_pair(self):
        for first, second in PAIRS:
            if all(b <= a for a, b in zip(first, second)):
                self.assertEqual(minus(first, second), tuple(a - b for a, b in zip(first, second)))
            else:
                self.fails(BadCrowd, {"crowd": second}, minus, first, second)

    def test_within(self):
        self.assertIs(within((1, 2), (1, 2)), True)
        self.assertIs(within((0, 0), (0, 0)), True)
        self.assertIs(within((0, 3), (9, 2)), False)
        self.assertIs(within((3, 0), (2, 9)), False)
        for first, second in PAIRS:
            self.assertIs(within(first, second), all(a <= b for a, b in zip(first, second)))

    def test_lesser_and_greater(self):
        self.assertEqual(lesser((1, 5, 2), (3, 4, 2)), (1, 4, 2))
        self.assertEqual(greater((1, 5, 2), (3, 4, 2)), (3, 5, 2))
        for first, second in PAIRS:
            self.assertEqual(lesser(first, second), tuple(map(min, first, second)))
            self.assertEqual(greater(first, second), tuple(map(max, first, second)))

    def test_crowds_are_tuples(self):
        for crowd in (plus((1,), (1,)), minus((1,), (1,)), lesser((1,), (1,)), greater((1,), (1,)),
                      crowd_of(1)):
            self.assertIs(type(crowd), tuple)

    def test_kinds_in(self):
        self.assertEqual(kinds_in((0, 3, 0, 1)), [1, 3])
        self.assertEqual(kinds_in((1, 1)), [0, 1])
        self.assertEqual(kinds_in((0, 0)), [])
        self.assertEqual(kinds_in((MANY,)), [0])

    def test_a_changed_list_changes_nothing(self):
        crowd = (2, 1)
        kinds_in(crowd).append(7)
        self.assertEqual(kinds_in(crowd), [0, 1])
        row_of(crowd).clear()
        self.assertEqual(row_of(crowd), [0, 0, 1])


class Rows(Case):
    def test_crowd_of(self):
        self.assertEqual(crowd_of(3, 2, 0, 2), (1, 0, 2))
        self.assertEqual(crowd_of(2), (0, 0))
        self.assertEqual(crowd_of(1, 0, 0), (2,))
        self.assertEqual(crowd_of(8, 7), (0, 0, 0, 0, 0, 0, 0, 1))

    def test_crowd_of_names_the_first_wrong_guest(self):
        self.fails(BadKind, {"kind": 3}, crowd_of, 3, 0, 3, -1)
        self.fails(BadKind, {"kind": -1}, crowd_of, 3, 2, -1, 3)
        self.fails(BadKind, {"kind": 1}, crowd_of, 1, 1)
        self.fails(BadKind, {"kind": 10 ** 30}, crowd_of, 2, 10 ** 30)

    def test_row_of(self):
        self.assertEqual(row_of((2, 0, 1)), [0, 0, 2])
        self.assertEqual(row_of((0, 0)), [])
        self.assertEqual(row_of((0, 3)), [1, 1, 1])

    def test_row_of_is_for_at_most_1000_guests(self):
        self.assertEqual(row_of((400, 600)), [0] * 400 + [1] * 600)
        self.assertEqual(row_of((1000,)), [0] * 1000)
        self.fails(TooLarge, {"size": 1001}, row_of, (401, 600))
        self.fails(TooLarge, {"size": 2 * MANY}, row_of, (MANY, MANY))

    def test_row_and_crowd_belong_together(self):
        for crowd in all_crowds((2, 1, 2)):
            self.assertEqual(crowd_of(3, *row_of(crowd)), crowd)


class Parts(Case):
    def test_example(self):
        self.assertEqual(list(parts((1, 0, 2), 2)), [(0, 0, 2), (1, 0, 1)])

    def test_all_crowds_within_in_ascending_order(self):
        for crowd in [(3,), (0,), (0, 0), (2, 2), (1, 0, 2), (3, 1, 2), (1, 1, 1, 1), (0, 2, 0, 3)]:
            for number in range(sum(crowd) + 3):
                with self.subTest(crowd=crowd, number=number):
                    expected = [part for part in all_crowds(crowd) if sum(part) == number]
                    self.assertEqual(list(parts(crowd, number)), expected)

    def test_edges(self):
        self.assertEqual(list(parts((2, 3), 0)), [(0, 0)])
        self.assertEqual(list(parts((2, 3), 5)), [(2, 3)])
        self.assertEqual(list(parts((2, 3), 6)), [])
        self.assertEqual(list(parts((2, 3), -1)), [])
        self.assertEqual(len(list(parts((MANY, MANY), 12))), 13)

    def test_great_counts(self):
        self.assertEqual(list(parts((MANY, MANY), 2)), [(0, 2), (1, 1), (2, 0)])
        self.assertEqual(len(list(parts((MANY,) * 6, 10))), 3003)
        self.assertEqual(list(parts((10 ** 30,), 10)), [(10,)])

    def test_the_first_parts_come_at_once(self):
        first = list(itertools.islice(parts((MANY,) * 40, 10), 3))
        self.assertEqual(first, [(0,) * 39 + (10,), (0,) * 38 + (1, 9), (0,) * 38 + (2, 8)])

    def test_each_call_begins_anew(self):
        one, other = parts((1, 1), 1), parts((1, 1), 1)
        self.assertEqual(next(one), (0, 1))
        self.assertEqual(list(other), [(0, 1), (1, 0)])
        self.assertEqual(list(one), [(1, 0)])

    def test_the_list_of_them(self):
        for crowd in [(3,), (0, 0), (2, 2), (1, 0, 2), (0, 2, 0, 3), (MANY, 1, MANY)]:
            for number in range(-1, 9):
                self.assertEqual(part_list(crowd, number), list(parts(crowd, number)))
        part_list((2, 2), 2).append(None)
        self.assertEqual(part_list((2, 2), 2), [(0, 2), (1, 1), (2, 0)])


if __name__ == "__main__":
    unittest.main()
