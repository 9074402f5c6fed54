"""Floors: point [19] and the heading fewchairs/floors.py."""

import unittest

from fewchairs.crowds import within
from fewchairs.errors import BadCrowd, BadKind
from fewchairs.floors import floor, floor_meeting
from fewchairs.houses import House
from fewchairs.look import is_free
from fewchairs.makers import fewest_custom, most_custom, order_custom
from fewchairs.rules import Rule
from tests.helpers import MANY, SMALL_HOUSES, Case, all_crowds, all_customs, plain_ends

NO_CROWDS = ((4, 0), (0, 10 ** 30), (-1, 2), (2,), (1, 1, 1), ())


def plain_floor(custom, crowd):
    """The floor by the words of [19]."""
    counts = []
    for kind, count in enumerate(crowd):
        sending = [meeting[kind] - 1 for meeting, goes in custom.table().items()
                   if goes == kind and all(a <= b for a, b in zip(meeting, crowd))]
        counts.append(min([count] + sending))
    return tuple(counts)


class Floors(Case):
    def test_written_out(self):
        custom = fewest_custom(House(2, 2))
        self.assertEqual(floor(custom, (2, 2)), (0, 0))
        self.assertEqual(floor(custom, (1, 2)), (0, 2))
        self.assertEqual(floor(custom, (1, 1)), (1, 1))
        self.assertEqual(floor(custom, (0, 0)), (0, 0))
        self.assertEqual(floor(custom, (0, 9)), (0, 2))

    def test_by_its_words(self):
        for house in SMALL_HOUSES:
            for custom in all_customs(house)[::3]:
                for crowd in all_crowds(house.most):
                    self.assertEqual(floor(custom, crowd), plain_floor(custom, crowd))

    def test_each_row_leaves_at_least_the_floor(self):
        for house in SMALL_HOUSES:
            for custom in all_customs(house)[::3]:
                for crowd in all_crowds(house.most):
                    least = floor(custom, crowd)
                    for end in plain_ends(custom, crowd):
                        self.assertTrue(within(least, end))
                    if sum(crowd) >= house.chairs:
                        self.assertLessEqual(sum(least), house.chairs)

    def test_the_floor_of_an_order_free_custom_is_the_end(self):
        for house in SMALL_HOUSES:
            for custom in all_customs(house):
                full = all(sum(floor(custom, group)) == house.chairs for group in house.groups())
                self.assertEqual(full, is_free(custom))
                if full:
                    for crowd in all_crowds(house.most):
                        self.assertEqual([floor(custom, crowd)], list(plain_ends(custom, crowd)))

    def test_great_crowds_of_the_greatest_house(self):
        house = House(6, 5)
        custom = order_custom(house, [2, 4, 0, 1, 3, 5])
        self.assertEqual(floor(custom, (MANY,) * 6), (0, 0, 5, 0, 0, 0))
        self.assertEqual(floor(custom, (MANY, MANY, 2, MANY, 1, MANY)), (2, 0, 2, 0, 1, 0))
        self.assertEqual(floor(most_custom(house), (MANY,) * 6), (1, 1, 1, 1, 1, 0))
        rule = Rule(custom)
        for crowd in ((MANY, 0, 1, 0, 1, 7), (3, 3, 0, MANY, 0, 1), (1, 0, 0, 0, 0, 1)):
            self.assertEqual(floor(custom, crowd), rule.end(crowd))

    def test_no_crowds(self):
        custom = most_custom(House(2, 2, most=(3, MANY)))
        for crowd in NO_CROWDS:
            self.fails(BadCrowd, {"crowd": crowd}, floor, custom, crowd)


class FloorMeetings(Case):
    def test_written_out(self):
        custom = fewest_custom(House(2, 2))
        self.assertEqual(floor_meeting(custom, (3, 3), 0), (1, 2))
        self.assertEqual(floor_meeting(custom, (3, 3), 1), (2, 1))
        self.assertEqual(floor_meeting(custom, (3, 0), 0), (3, 0))
        self.assertIsNone(floor_meeting(custom, (3, 0), 1))
        self.assertIsNone(floor_meeting(custom, (1, 1), 0))
        self.assertIsNone(floor_meeting(custom, (0, 0), 0))

    def test_the_first_of_several_with_the_least_count(self):
        custom = order_custom(House(3, 1), [2, 1, 0])
        self.assertEqual(floor_meeting(custom, (2, 2, 2), 0), (1, 0, 1))
        self.assertEqual(floor_meeting(custom, (2, 2, 0), 0), (1, 1, 0))
        self.assertEqual(floor_meeting(custom, (2, 2, 2), 1), (0, 1, 1))

    def test_by_its_words(self):
        for house in SMALL_HOUSES:
            for custom in all_customs(house)[::3]:
                for crowd in all_crowds(house.most):
                    for kind in range(house.kinds):
                        sending = [meeting for meeting, goes in custom.table().items()
                                   if goes == kind and all(a <= b for a, b in zip(meeting, crowd))]
                        least = min([meeting[kind] for meeting in sending], default=None)
                        first = [meeting for meeting in sending if meeting[kind] == least][:1]
                        self.assertEqual(floor_meeting(custom, crowd, kind), first[0] if first else None)

    def test_great_crowds(self):
        custom = order_custom(House(6, 5), [0, 1, 2, 3, 4, 5])
        self.assertEqual(floor_meeting(custom, (MANY,) * 6, 5), (0, 0, 0, 0, 5, 1))

    def test_wrong_arguments(self):
        custom = most_custom(House(2, 2, most=(3, MANY)))
        for crowd in NO_CROWDS:
            self.fails(BadCrowd, {"crowd": crowd}, floor_meeting, custom, crowd, 0)
            self.fails(BadCrowd, {"crowd": crowd}, floor_meeting, custom, crowd, 9)
        for kind in (2, -1, 10 ** 30):
            self.fails(BadKind, {"kind": kind}, floor_meeting, custom, (1, 1), kind)


if __name__ == "__main__":
    unittest.main()
