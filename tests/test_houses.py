"""Houses: points [6] and [7] and the heading fewchairs/houses.py."""

import unittest

from fewchairs.errors import BadCrowd, BadHouse, TooLarge
from fewchairs.houses import House
from tests.helpers import MANY, SMALL_HOUSES, Case, all_crowds, crowds_of_size


class Making(Case):
    def test_attributes(self):
        house = House(3, 2, most=(1, 4, 2))
        self.assertEqual((house.kinds, house.chairs, house.most), (3, 2, (1, 4, 2)))

    def test_the_empty_tuple_stands_for_the_greatest_most(self):
        self.assertEqual(House(3, 2).most, (MANY, MANY, MANY))
        self.assertEqual(House(2, 1, most=()).most, (MANY, MANY))

    def test_class_values(self):
        self.assertEqual((House.KINDS, House.CHAIRS, House.MANY), (6, 5, 10 ** 18))
        self.assertEqual(House(1, 1).KINDS, 6)

    def test_bounds_themselves_are_allowed(self):
        self.assertEqual(House(1, 1, most=(1,)).most, (1,))
        house = House(6, 5, most=(MANY,) * 6)
        self.assertEqual((house.kinds, house.chairs, house.most), (6, 5, (MANY,) * 6))

    def test_kinds_out_of_bounds(self):
        for kinds in (0, 7, -1, 10 ** 30):
            self.fails(BadHouse, {"what": "kinds"}, House, kinds, 2)

    def test_chairs_out_of_bounds(self):
        for chairs in (0, 6, -1, 10 ** 30):
            self.fails(BadHouse, {"what": "chairs"}, House, 2, chairs)

    def test_most_out_of_bounds(self):
        for most in ((1,), (1, 1, 1), (0, 1), (1, 0), (-1, 1), (MANY + 1, 1), (1, MANY + 1)):
            self.fails(BadHouse, {"what": "most"}, House, 2, 2, most=most)

    def test_arguments_are_checked_in_their_order(self):
        self.fails(BadHouse, {"what": "kinds"}, House, 0, 0, most=(0,))
        self.fails(BadHouse, {"what": "kinds"}, House, 7, 2, most=(0,))
        self.fails(BadHouse, {"what": "chairs"}, House, 2, 6, most=(0,))

    def test_most_is_passed_by_name(self):
        with self.assertRaises(TypeError):
            House(2, 2, (1, 1))

    def test_unlike(self):
        self.assertEqual(House.unlike(4, 3), House(4, 3, most=(1, 1, 1, 1)))
        self.assertEqual(House.unlike(1, 1).most, (1,))
        self.assertIs(type(House.unlike(6, 5)), House)

    def test_unlike_raises_the_errors_of_a_house(self):
        for people in (0, 7, -3, 10 ** 30):
            self.fails(BadHouse, {"what": "kinds"}, House.unlike, people, 0)
        for chairs in (0, 6):
            self.fails(BadHouse, {"what": "chairs"}, House.unlike, 3, chairs)


class Comparing(Case):
    def test_equal_houses(self):
        self.assertTrue(House(2, 3) == House(2, 3))
        self.assertTrue(House(2, 3) == House(2, 3, most=(MANY, MANY)))
        self.assertFalse(House(2, 3) != House(2, 3))

    def test_unequal_houses(self):
        house = House(2, 3, most=(4, 5))
        for other in (House(2, 2, most=(4, 5)), House(2, 3, most=(5, 4)), House(2, 3),
                      House(3, 3, most=(4, 5, 1))):
            self.assertFalse(house == other)
            self.assertTrue(house != other)
        self.assertFalse(House(2, 3) == House(3, 3))

    def test_a_house_equals_nothing_else(self):
        self.assertFalse(House(2, 3) == (2, 3))
        self.assertFalse(House(2, 3) == None)  # noqa: E711

    def test_same_guests(self):
        house = House(2, 3, most=(4, 5))
        self.assertIs(house.same_guests(House(2, 1, most=(4, 5))), True)
        self.assertIs(house.same_guests(house), True)
        self.assertIs(house.same_guests(House(2, 3, most=(5, 4))), False)
        self.assertIs(house.same_guests(House(2, 3)), False)
        self.assertIs(House(2, 3).same_guests(House(3, 3)), False)
        self.assertIs(House(2, 3).same_guests(House(2, 3, most=(MANY, MANY))), True)


class Crowds(Case):
    def test_crowds_of_each_size(self):
        for house in SMALL_HOUSES:
            for number in range(sum(house.most) + 2):
                self.assertEqual(house.crowds(number), crowds_of_size(house, number))

    def test_meetings_and_groups(self):
        for house in SMALL_HOUSES:
            self.assertEqual(house.meetings(), crowds_of_size(house, house.chairs + 1))
            self.assertEqual(house.groups(), crowds_of_size(house, house.chairs + 2))

    def test_some_lists_written_out(self):
        house = House(2, 2)
        self.assertEqual(house.meetings(), [(0, 3), (1, 2), (2, 1), (3, 0)])
        self.assertEqual(house.groups(), [(0, 4), (1, 3), (2, 2), (3, 1), (4, 0)])
        self.assertEqual(House(2, 2, most=(1, 3)).meetings(), [(0, 3), (1, 2)])
        self.assertEqual(House(2, 2, most=(1, 3)).groups(), [(1, 3)])
        self.assertEqual(house.crowds(0), [(0, 0)])
        self.assertEqual(house.crowds(10), [(count, 10 - count) for count in range(11)])

    def test_there_may_be_no_meetings_and_no_groups(self):
        self.assertEqual(House.unlike(3, 2).groups(), [])
        self.assertEqual(House.unlike(3, 2).meetings(), [(1, 1, 1)])
        self.assertEqual(House.unlike(3, 3).meetings(), [])
        self.assertEqual(House(1, 5, most=(5,)).meetings(), [])
        self.assertEqual(House(1, 5, most=(6,)).meetings(), [(6,)])
        self.assertEqual(House(1, 5, most=(6,)).groups(), [])

    def test_the_greatest_house(self):
        house = House(6, 5)
        self.assertEqual(len(house.meetings()), 462)
        self.assertEqual(len(house.groups()), 792)
        self.assertEqual(house.meetings(), sorted(house.meetings()))

    def test_small_crowds(self):
        for house in SMALL_HOUSES:
            expected = [crowd for crowd in all_crowds(house.most) if max(crowd) <= house.chairs]
            self.assertEqual(house.small_crowds(), expected)
        self.assertEqual(House(2, 1).small_crowds(), [(0, 0), (0, 1), (1, 0), (1, 1)])

    def test_1024_small_crowds_and_more(self):
        house = House(5, 3)
        self.assertEqual(len(house.small_crowds()), 1024)
        self.assertEqual(house.small_crowds(), all_crowds((3,) * 5))
        self.fails(TooLarge, {"size": 4096}, House(6, 3).small_crowds)
        self.fails(TooLarge, {"size": 6 ** 6}, House(6, 5).small_crowds)
        self.fails(TooLarge, {"size": 1080}, House(4, 5, most=(5, 5, 5, 4)).small_crowds)
        self.fails(TooLarge, {"size": 1250}, House(5, 4, most=(4, 4, 4, 4, 1)).small_crowds)

    def test_a_changed_list_changes_nothing(self):
        house = House(2, 2)
        for lists in (house.meetings, house.groups, house.small_crowds, lambda: house.crowds(2)):
            before = list(lists())
            lists().clear()
            self.assertEqual(lists(), before)


class Having(Case):
    def test_has(self):
        house = House(2, 2, most=(3, 1))
        for crowd in ((0, 0), (3, 1), (2, 0)):
            self.assertIs(house.has(crowd), True)
        for crowd in ((4, 1), (3, 2), (-1, 0), (0, -1), (0,), (0, 0, 0), ()):
            self.assertIs(house.has(crowd), False)

    def test_has_with_the_greatest_most(self):
        self.assertIs(House(2, 1).has((MANY, MANY)), True)
        self.assertIs(House(2, 1).has((MANY, MANY + 1)), False)
        self.assertIs(House(2, 1).has((10 ** 40, 0)), False)

    def test_check(self):
        house = House(2, 2, most=(3, 1))
        self.assertIsNone(house.check((3, 1)))
        for crowd in ((4, 1), (0, -1), (0,), (0, 0, 0), ()):
            self.fails(BadCrowd, {"crowd": crowd}, house.check, crowd)


if __name__ == "__main__":
    unittest.main()
