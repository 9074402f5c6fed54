"""The four makers: point [12] and the heading fewchairs/makers.py."""

import itertools
import unittest

from fewchairs.errors import BadOrder
from fewchairs.houses import House
from fewchairs.makers import fewest_custom, middle_custom, most_custom, order_custom
from tests.helpers import SMALL_HOUSES, Case

HOUSES = SMALL_HOUSES + [House(3, 3), House(4, 4), House(2, 5), House(6, 5)]


class ByOrder(Case):
    def test_written_out(self):
        self.assertEqual(order_custom(House(2, 2), [0, 1]).answers, (1, 1, 1, 0))
        self.assertEqual(order_custom(House(2, 2), [1, 0]).answers, (1, 0, 0, 0))
        self.assertEqual(order_custom(House(3, 1), [2, 0, 1]).answers, (2, 1, 1, 0, 1, 0))

    def test_the_last_in_the_order_goes(self):
        for house in HOUSES:
            for order in list(itertools.permutations(range(house.kinds)))[:24]:
                custom = order_custom(house, list(order))
                self.assertEqual(custom.house, house)
                for meeting, kind in custom.table().items():
                    self.assertGreater(meeting[kind], 0)
                    for other in range(house.kinds):
                        if meeting[other]:
                            self.assertLessEqual(order.index(other), order.index(kind))

    def test_the_order_stays_as_it_was(self):
        order = [1, 0]
        custom = order_custom(House(2, 2), order)
        self.assertEqual(order, [1, 0])
        order.reverse()
        self.assertEqual(custom.answers, (1, 0, 0, 0))

    def test_wrong_orders(self):
        house = House(3, 2)
        for order, at in [([], 0), ([0, 1], 2), ([1, 1, 2], 1), ([0, 3, 2], 1), ([-1, 0, 1], 0),
                          ([0, 1, 2, 2], 3), ([0, 1, 2, 9], 3), ([0, 2, 0], 2)]:
            self.fails(BadOrder, {"at": at}, order_custom, house, order)

    def test_a_house_without_meetings_wants_an_order_too(self):
        self.assertEqual(order_custom(House.unlike(2, 2), [1, 0]).answers, ())
        self.fails(BadOrder, {"at": 1}, order_custom, House.unlike(2, 2), [1])


class ByCounts(Case):
    def test_written_out(self):
        self.assertEqual(most_custom(House(2, 2)).answers, (1, 1, 0, 0))
        self.assertEqual(most_custom(House(2, 3)).answers, (1, 1, 1, 0, 0))
        self.assertEqual(fewest_custom(House(2, 2)).answers, (1, 0, 1, 0))
        self.assertEqual(fewest_custom(House(2, 3)).answers, (1, 0, 1, 1, 0))
        self.assertEqual(most_custom(House(3, 1)).answers, (2, 2, 1, 2, 1, 0))
        self.assertEqual(fewest_custom(House(3, 1)).answers, (2, 2, 1, 2, 1, 0))

    def test_most(self):
        for house in HOUSES:
            custom = most_custom(house)
            self.assertEqual(custom.house, house)
            for meeting, kind in custom.table().items():
                self.assertEqual(kind, max(x for x in range(house.kinds) if meeting[x] == max(meeting)))

    def test_fewest(self):
        for house in HOUSES:
            custom = fewest_custom(house)
            self.assertEqual(custom.house, house)
            for meeting, kind in custom.table().items():
                least = min(count for count in meeting if count)
                self.assertEqual(kind, max(x for x in range(house.kinds) if meeting[x] == least))


class ByTheMiddle(Case):
    def test_written_out(self):
        self.assertEqual(middle_custom(House(2, 1)).answers, (1, 1, 0))
        self.assertEqual(middle_custom(House(2, 2)).answers, (1, 1, 0, 0))
        self.assertEqual(middle_custom(House(2, 3)).answers, (1, 1, 1, 0, 0))
        self.assertEqual(middle_custom(House(2, 4)).answers, (1, 1, 1, 0, 0, 0))

    def test_middle(self):
        for house in HOUSES:
            custom = middle_custom(house)
            self.assertEqual(custom.house, house)
            for meeting, kind in custom.table().items():
                row = sorted(x for x in range(house.kinds) for _ in range(meeting[x]))
                self.assertEqual(kind, row[(house.chairs + 1) // 2])


if __name__ == "__main__":
    unittest.main()
