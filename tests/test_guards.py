"""Guards: point [25] and the heading fewchairs/guards.py."""

import unittest

from fewchairs.crowds import within
from fewchairs.errors import BadCrowd, BadKind
from fewchairs.guards import guard, guards
from fewchairs.houses import House
from tests.helpers import GREATEST, MANY, RULES, Case, all_crowds, order_rule

RULE = order_rule(House(2, 2, most=(4, 5)), [1, 0])


class Guard(Case):
    def test_two_kinds(self):
        self.assertEqual(guard(RULE, (3, 1), 0), (2, 1))
        self.assertEqual(guard(RULE, (3, 3), 0), (1, 2))
        self.assertEqual(guard(RULE, (3, 3), 1), (0, 3))
        self.assertIsNone(guard(RULE, (3, 1), 1))
        self.assertIsNone(guard(RULE, (0, 3), 0))
        self.assertIsNone(guard(RULE, (1, 1), 0))
        self.assertIsNone(guard(RULE, (0, 0), 1))

    def test_all_crowds(self):
        for rule in RULES:
            for crowd in all_crowds(rule.house.most):
                end = rule.end(crowd)
                for kind in range(rule.house.kinds):
                    found = guard(rule, crowd, kind)
                    if end[kind] == crowd[kind]:
                        self.assertIsNone(found)
                        continue
                    self.assertEqual([count - (at == kind) for at, count in enumerate(found)], list(end))
                    self.assertTrue(within(found, crowd))
                    self.assertEqual(rule.custom.who_goes(found), kind)
                    self.assertIn(found, guards(rule, kind, end[kind]))

    def test_great_crowds(self):
        self.assertEqual(guard(GREATEST, (MANY,) * 6, 0), (1, 0, 2, 0, 0, 3))
        self.assertEqual(guard(GREATEST, (MANY,) * 6, 5), (0, 0, 2, 0, 0, 4))

    def test_wrong_arguments(self):
        for crowd in [(5, 0), (0, 6), (-1, 0), (1,), (1, 1, 1)]:
            self.fails(BadCrowd, {"crowd": crowd}, guard, RULE, crowd, 0)
            self.fails(BadCrowd, {"crowd": crowd}, guard, RULE, crowd, 2)
        for kind in [-1, 2, MANY]:
            self.fails(BadKind, {"kind": kind}, guard, RULE, (3, 3), kind)
            self.fails(BadKind, {"kind": kind}, guard, RULE, (0, 0), kind)


class Guards(Case):
    def test_two_kinds(self):
        self.assertEqual(guards(RULE, 0, 0), [(1, 2)])
        self.assertEqual(guards(RULE, 0, 1), [(2, 1)])
        self.assertEqual(guards(RULE, 0, 2), [(3, 0)])
        self.assertEqual(guards(RULE, 1, 2), [(0, 3)])
        self.assertEqual(guards(RULE, 1, 1), [])
        self.assertEqual(guards(RULE, 1, 0), [])

    def test_all_guards(self):
        for rule in RULES:
            for kind in range(rule.house.kinds):
                for number in range(-2, 8):
                    expected = [meeting for meeting in all_crowds(rule.house.most)
                                if sum(meeting) == rule.house.chairs + 1 and meeting[kind] == number + 1
                                and rule.custom.who_goes(meeting) == kind]
                    self.assertEqual(guards(rule, kind, number), expected)

    def test_numbers_that_no_guard_has(self):
        for number in [-1, -2, -MANY, 3, MANY]:
            self.assertEqual(guards(RULE, 0, number), [])
        self.assertEqual(guards(order_rule(House.unlike(2, 2), [0, 1]), 0, 0), [])

    def test_the_greatest_house(self):
        found = guards(GREATEST, 0, 0)
        self.assertEqual(found, sorted(found))
        self.assertTrue(found and all(meeting[0] == 1 and GREATEST.custom.who_goes(meeting) == 0
                                      for meeting in found))
        every = sum(len(guards(GREATEST, kind, number)) for kind in range(6) for number in range(6))
        self.assertEqual(every, 462)

    def test_wrong_kinds(self):
        for kind in [-1, 2, MANY]:
            for number in [-1, 0, 1, 99]:
                self.fails(BadKind, {"kind": kind}, guards, RULE, kind, number)

    def test_a_changed_list_changes_nothing(self):
        guards(RULE, 0, 0).append(None)
        self.assertEqual(guards(RULE, 0, 0), [(1, 2)])


if __name__ == "__main__":
    unittest.main()
