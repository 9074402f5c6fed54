"""Ends, numbers of rows and chances: point [21] and the heading fewchairs/ends.py."""

import unittest
from fractions import Fraction

from fewchairs.ends import chance, ends, row_to, surely
from fewchairs.errors import BadCrowd, BadKind, NoSuchEnd, TooLarge
from fewchairs.houses import House
from fewchairs.makers import fewest_custom, middle_custom, most_custom, order_custom
from tests.helpers import MANY, SMALL_HOUSES, Case, all_crowds, all_customs, all_rows, plain_ends, plain_left

FEWEST = fewest_custom(House(2, 2))
ASKS = [
    ends,
    lambda custom, crowd: row_to(custom, crowd, (0, 0)),
    lambda custom, crowd: chance(custom, crowd, 9, 0),
    surely,
]


class Ends(Case):
    def test_example(self):
        self.assertEqual(ends(FEWEST, (2, 2)), [((0, 2), 3), ((2, 0), 3)])
        self.assertEqual(chance(FEWEST, (2, 2), 0, 1), (1, 2))

    def test_all_rows_of_small_houses(self):
        for house in SMALL_HOUSES:
            for custom in all_customs(house)[::3]:
                for crowd in all_crowds(house.most):
                    self.assertEqual(ends(custom, crowd), sorted(plain_ends(custom, crowd).items()))

    def test_the_empty_crowd(self):
        self.assertEqual(ends(FEWEST, (0, 0)), [((0, 0), 1)])
        self.assertEqual(row_to(FEWEST, (0, 0), (0, 0)), [])
        self.assertEqual(surely(FEWEST, (0, 0)), (0, 0))
        self.assertEqual(chance(FEWEST, (0, 0), 0, 1), (0, 1))

    def test_fewer_guests_than_chairs(self):
        custom = most_custom(House(2, 5))
        self.assertEqual(ends(custom, (2, 2)), [((2, 2), 6)])

    def test_ten_guests(self):
        house = House(6, 5)
        found = ends(middle_custom(house), (2, 2, 2, 2, 1, 1))
        self.assertEqual(sum(number for _, number in found), 226800)
        self.assertEqual(found, sorted(found))
        self.assertEqual(ends(order_custom(house, [0, 1, 2, 3, 4, 5]), (2, 2, 2, 2, 1, 1)),
                         [((2, 2, 1, 0, 0, 0), 226800)])
        self.assertEqual(ends(FEWEST, (10, 0)), [((2, 0), 1)])

    def test_a_crowd_of_seven_by_all_its_rows(self):
        for custom in (FEWEST, fewest_custom(House(3, 2)), middle_custom(House(3, 3))):
            crowd = (3, 4) if custom.house.kinds == 2 else (3, 2, 2)
            self.assertEqual(ends(custom, crowd), sorted(plain_ends(custom, crowd).items()))

    def test_a_changed_list_changes_nothing(self):
        found = ends(FEWEST, (2, 2))
        self.assertEqual([type(pair) for pair in found], [tuple, tuple])
        found.clear()
        self.assertEqual(len(ends(FEWEST, (2, 2))), 2)
        row_to(FEWEST, (2, 2), (0, 2)).clear()
        self.assertEqual(len(row_to(FEWEST, (2, 2), (0, 2))), 4)


class Checks(Case):
    def test_no_crowds(self):
        custom = most_custom(House(2, 2, most=(3, MANY)))
        for ask in ASKS:
            for crowd in ((4, 0), (4, 20), (0, 10 ** 30), (-1, 2), (2,), (1, 1, 1), ()):
                self.fails(BadCrowd, {"crowd": crowd}, ask, custom, crowd)

    def test_at_most_ten_guests(self):
        for ask in ASKS:
            self.fails(TooLarge, {"size": 11}, ask, FEWEST, (5, 6))
            self.fails(TooLarge, {"size": MANY}, ask, FEWEST, (0, MANY))


class RowTo(Case):
    def test_written_out(self):
        self.assertEqual(row_to(FEWEST, (2, 2), (0, 2)), [0, 1, 1, 0])
        self.assertEqual(row_to(FEWEST, (2, 2), (2, 0)), [0, 0, 1, 1])

    def test_the_first_row_in_the_order_of_lists(self):
        for house in SMALL_HOUSES:
            for custom in all_customs(house)[::5]:
                for crowd in all_crowds(house.most):
                    firsts = {}
                    for row in all_rows(crowd):
                        firsts.setdefault(plain_left(custom, row), row)
                    for end, row in firsts.items():
                        self.assertEqual(row_to(custom, crowd, end), row)

    def test_ten_guests(self):
        custom = fewest_custom(House(6, 5))
        crowd = (2, 2, 2, 2, 1, 1)
        for end, _ in ends(custom, crowd)[::20]:
            row = row_to(custom, crowd, end)
            self.assertEqual(tuple(row.count(kind) for kind in range(6)), crowd)
            self.assertEqual(plain_left(custom, row), end)

    def test_no_such_end(self):
        for end in ((1, 1), (2, 2), (0, 0), (-1, 3), (2,), (0, 2, 0), (), (10 ** 40, 0)):
            self.fails(NoSuchEnd, {"crowd": end}, row_to, FEWEST, (2, 2), end)
        self.fails(NoSuchEnd, {"crowd": (1,)}, row_to, FEWEST, (0, 0), (1,))


class Chances(Case):
    def test_all_chances_of_small_houses(self):
        for house in SMALL_HOUSES:
            for custom in all_customs(house)[::7]:
                for crowd in all_crowds(house.most):
                    found = plain_ends(custom, crowd)
                    every = sum(found.values())
                    for kind in range(house.kinds):
                        for number in range(-1, house.chairs + 2):
                            enough = sum(rows for end, rows in found.items() if end[kind] >= number)
                            true = Fraction(enough, every)
                            self.assertEqual(chance(custom, crowd, kind, number),
                                             (true.numerator, true.denominator))

    def test_lowest_terms(self):
        self.assertEqual(chance(FEWEST, (2, 2), 0, 3), (0, 1))
        self.assertEqual(chance(FEWEST, (2, 2), 0, 10 ** 40), (0, 1))
        for number in (0, -1, -(10 ** 40)):
            self.assertEqual(chance(FEWEST, (2, 2), 0, number), (1, 1))
        self.assertIs(type(chance(FEWEST, (2, 2), 0, 1)), tuple)

    def test_no_such_kind_whatever_the_number(self):
        for kind in (2, -1, 10 ** 30):
            for number in (-5, 0, 1, 99):
                self.fails(BadKind, {"kind": kind}, chance, FEWEST, (2, 2), kind, number)


class Surely(Case):
    def test_written_out(self):
        self.assertEqual(surely(FEWEST, (2, 2)), (0, 0))
        self.assertEqual(surely(FEWEST, (1, 3)), (0, 2))
        self.assertEqual(surely(FEWEST, (1, 1)), (1, 1))

    def test_the_least_of_all_rows(self):
        for house in SMALL_HOUSES:
            for custom in all_customs(house)[::3]:
                for crowd in all_crowds(house.most):
                    found = plain_ends(custom, crowd)
                    least = tuple(min(end[kind] for end in found) for kind in range(house.kinds))
                    self.assertEqual(surely(custom, crowd), least)


if __name__ == "__main__":
    unittest.main()
