"""The look and order-free customs: points [15] and [16] and the heading fewchairs/look.py."""

import unittest

from fewchairs.customnumbers import custom_at
from fewchairs.customs import Custom
from fewchairs.errors import BadCrowd
from fewchairs.houses import House
from fewchairs.look import first_fault, given_up, is_free, look, passes
from fewchairs.makers import fewest_custom, middle_custom, most_custom, order_custom
from tests.helpers import SMALL_HOUSES, Case, all_customs, plain_ends, plainly_free


def plainly_given_up(custom, group):
    """The chairs given up by the words of [15]."""
    noted = {}
    for kind in range(len(group)):
        if group[kind]:
            rest = list(group)
            rest[kind] -= 1
            noted[kind] = custom(tuple(rest))
    chairs = []
    for kind in range(len(group)):
        if kind not in noted.values():
            chairs.append(0)
        elif noted.get(kind) == kind:
            chairs.append(2)
        else:
            chairs.append(1)
    return tuple(chairs)


class Looks(Case):
    def test_written_out(self):
        custom = Custom(House(2, 2), [1, 0, 1, 0])
        self.assertEqual(look(custom, (2, 2)), [(0, 0), (1, 1)])
        self.assertEqual(given_up(custom, (2, 2)), (2, 2))
        self.assertEqual(look(custom, (1, 3)), [(0, 1), (1, 0)])
        self.assertEqual(given_up(custom, (1, 3)), (1, 1))
        self.assertEqual(look(custom, (4, 0)), [(0, 0)])
        self.assertEqual(given_up(custom, (4, 0)), (2, 0))

    def test_pairs_are_tuples_in_a_new_list(self):
        custom = Custom(House(2, 2), [1, 0, 1, 0])
        found = look(custom, (2, 2))
        self.assertEqual([type(pair) for pair in found], [tuple, tuple])
        self.assertIs(type(given_up(custom, (2, 2))), tuple)
        found.clear()
        self.assertEqual(look(custom, (2, 2)), [(0, 0), (1, 1)])

    def test_a_kind_may_be_noted_without_being_left_out_last(self):
        # Kind 0 is noted first when itself is left out, then when others are.
        custom = order_custom(House(3, 1), [2, 1, 0])
        self.assertEqual(look(custom, (2, 1, 0)), [(0, 0), (1, 0)])
        self.assertEqual(given_up(custom, (2, 1, 0)), (2, 0, 0))
        self.assertEqual(look(custom, (1, 1, 1)), [(0, 1), (1, 0), (2, 0)])
        self.assertEqual(given_up(custom, (1, 1, 1)), (1, 1, 0))

    def test_three_chairs_given_up(self):
        custom = Custom(House.unlike(3, 1), [2, 0, 1])
        self.assertEqual(look(custom, (1, 1, 1)), [(0, 2), (1, 0), (2, 1)])
        self.assertEqual(given_up(custom, (1, 1, 1)), (1, 1, 1))
        self.assertIs(passes(custom, (1, 1, 1)), False)

    def test_each_group_of_small_houses(self):
        for house in SMALL_HOUSES:
            for custom in all_customs(house):
                for group in house.groups():
                    chairs = plainly_given_up(custom, group)
                    self.assertEqual(given_up(custom, group), chairs)
                    self.assertGreaterEqual(sum(chairs), 2)
                    self.assertIs(passes(custom, group), sum(chairs) == 2)

    def test_what_is_no_group(self):
        custom = most_custom(House(2, 2, most=(2, 9)))
        for crowd in ((1, 2), (2, 3), (0, 0), (3, 1), (-1, 5), (4,), (1, 1, 2), ()):
            for ask in (look, given_up, passes):
                self.fails(BadCrowd, {"crowd": crowd}, ask, custom, crowd)
        self.assertEqual(look(custom, (2, 2)), [(0, 1), (1, 0)])


class OrderFree(Case):
    def test_the_look_tells_whether_the_order_counts(self):
        for house in SMALL_HOUSES:
            for custom in all_customs(house):
                faults = [group for group in house.groups() if sum(plainly_given_up(custom, group)) != 2]
                free = plainly_free(custom)
                self.assertEqual(free, not faults)
                self.assertIs(is_free(custom), free)
                self.assertEqual(first_fault(custom), faults[0] if faults else None)

    def test_the_look_passes_where_the_rows_of_the_group_agree(self):
        for house in (House(2, 2, most=(3, 3)), House(3, 1, most=(2, 1, 1)), House.unlike(4, 2)):
            for custom in all_customs(house):
                for group in house.groups():
                    if not passes(custom, group):
                        self.assertGreater(len(plain_ends(custom, group)), 1)

    def test_houses_without_groups(self):
        for house in (House.unlike(3, 2), House(1, 2, most=(3,)), House.unlike(1, 5)):
            for custom in all_customs(house):
                self.assertIs(is_free(custom), True)
                self.assertIsNone(first_fault(custom))

    def test_how_many_customs_are_order_free(self):
        for house, number in [(House(2, 1), 2), (House(2, 3), 4), (House(2, 5), 6), (House(3, 1), 6),
                              (House(3, 2), 24), (House.unlike(3, 1), 6), (House.unlike(4, 2), 24),
                              (House(1, 4), 1)]:
            self.assertEqual(sum(is_free(custom) for custom in all_customs(house)), number)

    def test_makers(self):
        greatest = House(6, 5)
        self.assertTrue(is_free(order_custom(greatest, [3, 1, 0, 5, 2, 4])))
        self.assertTrue(is_free(middle_custom(House(2, 4))))
        self.assertTrue(is_free(most_custom(House(2, 3))))
        self.assertFalse(is_free(fewest_custom(greatest)))
        self.assertEqual(first_fault(fewest_custom(House(2, 2))), (2, 2))

    def test_one_wrong_answer_in_the_greatest_house_is_found(self):
        house = House(6, 5)
        answers = list(order_custom(house, [0, 1, 2, 3, 4, 5]).answers)
        answers[house.meetings().index((2, 0, 0, 0, 0, 4))] = 0
        custom = Custom(house, answers)
        self.assertFalse(is_free(custom))
        faults = [group for group in house.groups() if sum(plainly_given_up(custom, group)) != 2]
        self.assertEqual(first_fault(custom), faults[0])

    def test_a_custom_far_in_the_middle_of_all(self):
        self.assertFalse(is_free(custom_at(House(6, 5), 10 ** 200 + 1)))


if __name__ == "__main__":
    unittest.main()
