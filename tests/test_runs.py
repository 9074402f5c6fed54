"""Runs: points [13] and [10] with runs, and the heading fewchairs/runs.py."""

import itertools
import unittest

from fewchairs.customs import Custom
from fewchairs.errors import BadKind, TooManyOf
from fewchairs.houses import House
from fewchairs.makers import fewest_custom, most_custom, order_custom
from fewchairs.runs import left, steps
from tests.helpers import (SMALL_HOUSES, Case, all_crowds, all_customs, all_rows, plain_left, plain_run)


class Runs(Case):
    def test_example(self):
        self.assertEqual(steps(most_custom(House(2, 2)), [0, 0, 1]),
                         [(None, (1, 0)), (None, (2, 0)), (0, (1, 1))])

    def test_the_newcomer_may_go_at_once(self):
        custom = order_custom(House(2, 2), [0, 1])
        self.assertEqual(steps(custom, [0, 0, 1, 0])[2:], [(1, (2, 0)), (0, (2, 0))])

    def test_kind_0_may_go(self):
        custom = order_custom(House(2, 1), [1, 0])
        self.assertEqual(steps(custom, [0, 1, 0]), [(None, (1, 0)), (0, (0, 1)), (0, (0, 1))])

    def test_the_empty_row(self):
        custom = most_custom(House(3, 2))
        self.assertEqual(steps(custom, []), [])
        self.assertEqual(left(custom, []), (0, 0, 0))

    def test_fewer_guests_than_chairs(self):
        custom = most_custom(House(2, 5))
        self.assertEqual(steps(custom, [1, 0]), [(None, (0, 1)), (None, (1, 1))])
        self.assertEqual(left(custom, [1, 0, 1]), (1, 2))

    def test_one_kind(self):
        self.assertEqual(left(most_custom(House(1, 3)), [0] * 20), (3,))

    def test_all_rows_of_small_houses(self):
        for house in SMALL_HOUSES:
            for custom in all_customs(house)[::9]:
                for crowd in all_crowds(house.most):
                    for row in all_rows(crowd):
                        self.assertEqual(steps(custom, row), plain_run(custom, row))
                        self.assertEqual(left(custom, row), plain_left(custom, row))

    def test_a_long_row(self):
        custom = order_custom(House(2, 5), [1, 0])
        self.assertEqual(left(custom, [0] * 3000 + [1] * 3 + [0] * 3000), (2, 3))

    def test_no_such_kind(self):
        custom = most_custom(House(2, 1, most=(2, 2)))
        for run in (steps, left):
            for kind in (2, -1, 10 ** 30):
                self.fails(BadKind, {"kind": kind}, run, custom, [0, kind])
                self.fails(BadKind, {"kind": kind}, run, custom, [kind])

    def test_too_many_guests(self):
        custom = most_custom(House(2, 1, most=(2, 1)))
        for run in (steps, left):
            self.fails(TooManyOf, {"kind": 0}, run, custom, [0, 0, 0])
            self.fails(TooManyOf, {"kind": 1}, run, custom, [1, 0, 0, 1])
            run(custom, [0, 1, 0])

    def test_the_guests_are_checked_in_turn(self):
        custom = most_custom(House.unlike(2, 1))
        for run in (steps, left):
            self.fails(TooManyOf, {"kind": 1}, run, custom, [1, 1, 7])
            self.fails(BadKind, {"kind": 7}, run, custom, [1, 7, 1])
            self.fails(TooManyOf, {"kind": 0}, run, custom, [1, 0, 0, 1])

    def test_too_many_is_counted_by_all_who_came(self):
        # Guest 0 has gone long ago, but has come all the same.
        custom = order_custom(House.unlike(3, 1), [2, 1, 0])
        for run in (steps, left):
            self.fails(TooManyOf, {"kind": 0}, run, custom, [0, 2, 0])

    def test_the_row_stays_as_it_was(self):
        row = [0, 1, 0, 1]
        custom = fewest_custom(House(2, 2))
        steps(custom, row)
        left(custom, row)
        self.assertEqual(row, [0, 1, 0, 1])

    def test_a_changed_list_changes_nothing(self):
        custom = fewest_custom(House(2, 2))
        before = steps(custom, [0, 1, 0])
        steps(custom, [0, 1, 0]).clear()
        self.assertEqual(steps(custom, [0, 1, 0]), before)


class RenamedRuns(Case):
    def test_a_renamed_custom_runs_as_the_old_one(self):
        for house in (House(2, 2, most=(3, 2)), House(3, 1, most=(2, 1, 1)), House(3, 2, most=(2, 2, 1))):
            for custom in all_customs(house)[::5]:
                for names in itertools.permutations(range(house.kinds)):
                    renamed = custom.renamed(list(names))
                    for row in all_rows(house.most):
                        end = left(renamed, [names[kind] for kind in row])
                        old = left(custom, row)
                        self.assertEqual([end[names[kind]] for kind in range(house.kinds)], list(old))

    def test_a_renamed_most(self):
        custom = Custom(House(2, 1, most=(1, 3)), [1, 1])
        self.assertEqual(left(custom.renamed([1, 0]), [0, 0, 0, 1]), (0, 1))
        self.fails(TooManyOf, {"kind": 1}, left, custom.renamed([1, 0]), [1, 1])


if __name__ == "__main__":
    unittest.main()
