"""Calm crowds: point [20] and the heading fewchairs/calm.py."""

import unittest

from fewchairs.calm import trouble
from fewchairs.errors import BadCrowd
from fewchairs.houses import House
from fewchairs.look import passes
from fewchairs.makers import fewest_custom, most_custom, order_custom
from tests.helpers import MANY, SMALL_HOUSES, Case, all_crowds, all_customs, plain_ends


class Calm(Case):
    def test_written_out(self):
        custom = fewest_custom(House(2, 2))
        self.assertEqual(trouble(custom, (2, 2)), (2, 2))
        self.assertEqual(trouble(custom, (MANY, 3)), (2, 2))
        self.assertIsNone(trouble(custom, (1, MANY)))
        self.assertIsNone(trouble(custom, (0, 0)))
        self.assertIsNone(trouble(custom, (2, 1)))

    def test_calm_means_that_all_rows_within_agree(self):
        for house in SMALL_HOUSES:
            for custom in all_customs(house)[::2]:
                for crowd in all_crowds(house.most):
                    calm = all(len(plain_ends(custom, inner)) == 1 for inner in all_crowds(crowd))
                    self.assertEqual(trouble(custom, crowd) is None, calm)

    def test_the_first_group_within(self):
        for house in SMALL_HOUSES:
            for custom in all_customs(house)[::2]:
                for crowd in all_crowds(house.most):
                    groups = [group for group in house.groups()
                              if all(a <= b for a, b in zip(group, crowd)) and not passes(custom, group)]
                    self.assertEqual(trouble(custom, crowd), groups[0] if groups else None)

    def test_houses_without_groups(self):
        self.assertIsNone(trouble(most_custom(House.unlike(3, 2)), (1, 1, 1)))

    def test_great_crowds_of_the_greatest_house(self):
        house = House(6, 5)
        self.assertIsNone(trouble(order_custom(house, [5, 4, 3, 2, 1, 0]), (MANY,) * 6))
        self.assertIsNotNone(trouble(fewest_custom(house), (MANY,) * 6))
        self.assertIsNone(trouble(fewest_custom(house), (MANY, 0, 0, 0, 0, 0)))

    def test_no_crowds(self):
        custom = most_custom(House(2, 2, most=(3, MANY)))
        for crowd in ((4, 0), (0, 10 ** 30), (-1, 2), (2,), (1, 1, 1), ()):
            self.fails(BadCrowd, {"crowd": crowd}, trouble, custom, crowd)


if __name__ == "__main__":
    unittest.main()
