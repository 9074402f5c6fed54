"""Folk: points [60], [61] and the heading fewchairs/folks.py."""

import itertools
import unittest

from fewchairs.crowds import kinds_in
from fewchairs.errors import BadCrowd, BadCustom, BadKind, TooManyOf, WrongHouse
from fewchairs.folks import Folk
from fewchairs.houses import House
from fewchairs.makers import fewest_custom, order_custom
from fewchairs.runs import left
from tests.helpers import MANY, Case, all_folk, plain_parting

THREE = order_custom(House.unlike(3, 1), [0, 1, 2])


class Making(Case):
    def test_attributes(self):
        folk = Folk(THREE, [1, 0, 0])
        self.assertIs(folk.custom, THREE)
        self.assertEqual(folk.joins, (1, 0, 0))
        self.assertEqual(Folk(THREE, (1, 0, 0)).joins, (1, 0, 0))

    def test_a_changed_list_changes_nothing(self):
        joins = [1, 0, 0]
        folk = Folk(THREE, joins)
        self.assertEqual(joins, [1, 0, 0])
        joins.reverse()
        self.assertEqual(folk.joins, (1, 0, 0))
        self.assertEqual(folk.joined((0, 1, 1)), 1)

    def test_guests_that_are_not_unlike(self):
        for most in [(), (1, 1, 2), (2, 1, 1)]:
            self.fails(WrongHouse, {"what": "most"}, Folk, fewest_custom(House(3, 2, most=most)), [9])

    def test_wrong_joins(self):
        # The meetings are {1, 2}, {0, 2} and {0, 1}; 2, 2 and 1 go from them.
        for at, joins in [(0, [2, 0, 0]), (0, [0, 0, 0]), (0, [-1, 0, 0]), (0, [3, 0, 0]), (1, [1, 2, 0]),
                          (1, [1, 1, 0]), (2, [1, 0, 1]), (2, [1, 0, 2]), (2, [1, 0, MANY]), (0, []), (1, [1]),
                          (2, [1, 0]), (3, [1, 0, 0, 0]), (3, [1, 0, 0, 7, 7]), (1, [1, 2]), (0, [2, 2, 2, 2])]:
            self.fails(BadCustom, {"at": at}, Folk, THREE, joins)
            self.fails(BadCustom, {"at": at}, Folk, THREE, tuple(joins))

    def test_no_meetings(self):
        custom = order_custom(House.unlike(2, 3), [0, 1])
        self.assertEqual(Folk(custom, []).joins, ())
        self.fails(BadCustom, {"at": 0}, Folk, custom, [0])


class Joined(Case):
    def test_who_is_joined(self):
        for folk in all_folk(4, 2)[::13]:
            for meeting, person in zip(folk.custom.house.meetings(), folk.joins):
                self.assertEqual(folk.joined(meeting), person)

    def test_what_is_no_meeting(self):
        folk = Folk(THREE, [1, 0, 0])
        for crowd in [(1, 1, 1), (1, 0, 0), (0, 0, 0), (2, 0, 0), (0, 2, 0), (1, 1), (1, 1, 0, 0), (), (-1, 1, 2)]:
            self.fails(BadCrowd, {"crowd": crowd}, folk.joined, crowd)


class Parting(Case):
    def test_a_row(self):
        folk = Folk(THREE, [1, 0, 0])
        self.assertEqual(folk.parting([2, 1, 0]), [(0, (0, 1, 2))])
        folk = Folk(order_custom(House.unlike(4, 2), [0, 1, 2, 3]), [1, 0, 1, 0])
        self.assertEqual(folk.parting([2, 3, 1, 0]), [(0, (0, 2)), (1, (1, 3))])
        self.assertEqual(folk.parting([3, 1]), [(1, (1,)), (3, (3,))])

    def test_whole_groups_join(self):
        # 3 goes first, then the group of 2 and 3 as a whole.
        folk = Folk(order_custom(House.unlike(4, 1), [0, 1, 2, 3]), [2, 1, 1, 0, 0, 0])
        self.assertEqual(folk.parting([3, 2]), [(2, (2, 3))])
        self.assertEqual(folk.parting([3, 2, 1]), [(1, (1, 2, 3))])
        self.assertEqual(folk.parting([3, 2, 1, 0]), [(0, (0, 1, 2, 3))])

    def test_all_rows(self):
        for folk in all_folk(3, 1) + all_folk(4, 2)[::7] + all_folk(4, 1)[::7]:
            people = folk.custom.house.kinds
            for number in range(people + 1):
                for row in itertools.permutations(range(people), number):
                    parting = folk.parting(list(row))
                    self.assertEqual(parting, plain_parting(folk, row))
                    self.assertEqual([head for head, _ in parting], kinds_in(left(folk.custom, list(row))))
                    members = [person for _, group in parting for person in group]
                    self.assertEqual(sorted(members), sorted(row))

    def test_six_people(self):
        custom = fewest_custom(House.unlike(6, 3))
        joins = [[person for person in kinds_in(meeting) if person != custom(meeting)][sum(meeting[:3]) % 3]
                 for meeting in custom.house.meetings()]
        folk = Folk(custom, joins)
        for row in list(itertools.permutations(range(6)))[::11]:
            self.assertEqual(folk.parting(list(row)), plain_parting(folk, row))

    def test_the_empty_row(self):
        self.assertEqual(Folk(THREE, [1, 0, 0]).parting([]), [])

    def test_wrong_guests(self):
        folk = Folk(THREE, [1, 0, 0])
        for kind in (-1, 3, MANY):
            self.fails(BadKind, {"kind": kind}, folk.parting, [0, 1, kind])
        for row in [[0, 0], [0, 1, 0], [2, 0, 1, 0, 5]]:
            self.fails(TooManyOf, {"kind": 0}, folk.parting, row)
        self.fails(BadKind, {"kind": 7}, folk.parting, [1, 7, 1])

    def test_results_and_arguments_do_not_count(self):
        folk, row = Folk(THREE, [1, 0, 0]), [2, 1, 0]
        folk.parting(row).clear()
        self.assertEqual(row, [2, 1, 0])
        self.assertEqual(folk.parting(row), [(0, (0, 1, 2))])


if __name__ == "__main__":
    unittest.main()
