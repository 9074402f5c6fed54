"""Crowds known by halves: point [29] and the heading fewchairs/between.py."""

import itertools
import unittest

from fewchairs.between import crowd_with, one_end, range_of
from fewchairs.errors import BadCrowd, BadKind
from fewchairs.houses import House
from fewchairs.makers import most_custom
from fewchairs.rules import Rule
from tests.helpers import GREATEST, MANY, RULES, Case, all_crowds, crowds_between, order_rule

RULE = order_rule(House(2, 2, most=(4, 5)), [1, 0])


def halves(rule):
    """All pairs of a low and a high crowd of the small house."""
    crowds = all_crowds(rule.house.most)
    return [(low, high) for low, high in itertools.product(crowds, repeat=2)
            if all(count <= bound for count, bound in zip(low, high))]


class RangeOf(Case):
    def test_two_kinds(self):
        self.assertEqual(range_of(RULE, (1, 0), (3, 2), 0), (0, (1, 2), 2, (3, 0)))
        self.assertEqual(range_of(RULE, (1, 0), (3, 2), 1), (0, (3, 0), 2, (1, 2)))
        self.assertEqual(range_of(RULE, (0, 0), (1, 1), 0), (0, (0, 1), 1, (1, 0)))

    def test_all_crowds_between(self):
        for rule in RULES[::3]:
            for low, high in halves(rule)[::3]:
                for kind in range(rule.house.kinds):
                    numbers = [rule.end(crowd)[kind] for crowd in crowds_between(low, high)]
                    fewest, first, most, second = range_of(rule, low, high, kind)
                    self.assertEqual((fewest, most), (min(numbers), max(numbers)))
                    self.assertEqual((rule.end(first)[kind], rule.end(second)[kind]), (fewest, most))
                    for other in range(rule.house.kinds):
                        own = other == kind
                        self.assertEqual(first[other], low[other] if own else high[other])
                        self.assertEqual(second[other], high[other] if own else low[other])

    def test_low_equal_to_high(self):
        self.assertEqual(range_of(RULE, (3, 1), (3, 1), 0), (1, (3, 1), 1, (3, 1)))

    def test_the_greatest_house(self):
        low, high = (1, 0, 0, 5, 0, 0), (MANY,) * 6
        self.assertEqual(range_of(GREATEST, low, high, 2),
                         (0, (MANY, MANY, 0, MANY, MANY, MANY), 4, (1, 0, MANY, 5, 0, 0)))


class CrowdWith(Case):
    def check(self, rule, low, high, kind, number):
        numbers = {rule.end(crowd)[kind] for crowd in crowds_between(low, high)}
        found = crowd_with(rule, low, high, kind, number)
        if number not in numbers:
            self.assertIsNone(found)
        else:
            self.assertIn(found, crowds_between(low, high))
            self.assertEqual(rule.end(found)[kind], number)

    def test_all_numbers(self):
        for rule in RULES[::3]:
            for low, high in halves(rule)[::5]:
                for kind in range(rule.house.kinds):
                    for number in range(-1, rule.house.chairs + 2):
                        self.check(rule, low, high, kind, number)

    def test_wide_houses_with_counts_above_the_chairs(self):
        for rule in [order_rule(House(2, 2), [1, 0]), Rule(most_custom(House(3, 2))),
                     order_rule(House(3, 1), [2, 0, 1]) >> order_rule(House(3, 2), [1, 2, 0])]:
            for low in [(0, 0, 0), (1, 0, 5), (4, 4, 1)]:
                for high in [(5, 5, 5), (6, 4, 5)]:
                    ends = low[:rule.house.kinds], high[:rule.house.kinds]
                    for kind in range(rule.house.kinds):
                        for number in range(4):
                            self.check(rule, *ends, kind, number)

    def test_the_greatest_house(self):
        low, high = (0, 1, 0, 0, 2, 1), (MANY, MANY - 1, MANY, MANY, MANY, MANY)
        for kind in range(6):
            fewest, _, most, _ = range_of(GREATEST, low, high, kind)
            for number in range(-1, 7):
                found = crowd_with(GREATEST, low, high, kind, number)
                self.assertEqual(found is None, not fewest <= number <= most)
                if found is not None:
                    self.assertEqual(GREATEST.end(found)[kind], number)
                    self.assertTrue(all(x <= y <= z for x, y, z in zip(low, found, high)))
        self.assertIsNone(crowd_with(GREATEST, low, high, 0, MANY))
        self.assertIsNone(crowd_with(GREATEST, (MANY,) * 6, (MANY,) * 6, 2, 3))

    def test_low_equal_to_high(self):
        self.assertEqual(crowd_with(RULE, (3, 1), (3, 1), 0, 1), (3, 1))
        self.assertIsNone(crowd_with(RULE, (3, 1), (3, 1), 0, 2))


class OneEnd(Case):
    def test_two_kinds(self):
        self.assertEqual(one_end(RULE, (0, 2), (4, 5)), ("same", (0, 2)))
        self.assertEqual(one_end(RULE, (1, 1), (4, 1)), ("same", (1, 1)))
        word, first, second = one_end(RULE, (1, 1), (1, 2))
        self.assertEqual((word, {first, second}), ("part", {(1, 1), (1, 2)}))

    def test_all_crowds_between(self):
        for rule in RULES[::2]:
            for low, high in halves(rule)[::3]:
                ends = {rule.end(crowd) for crowd in crowds_between(low, high)}
                told = one_end(rule, low, high)
                if len(ends) == 1:
                    self.assertEqual(told, ("same", *ends))
                else:
                    word, first, second = told
                    self.assertEqual(word, "part")
                    self.assertLessEqual({first, second}, set(crowds_between(low, high)))
                    self.assertNotEqual(rule.end(first), rule.end(second))

    def test_low_equal_to_high(self):
        self.assertEqual(one_end(RULE, (0, 0), (0, 0)), ("same", (0, 0)))
        self.assertEqual(one_end(RULE, (4, 1), (4, 1)), ("same", (1, 1)))

    def test_the_greatest_house(self):
        low, high = (0, 0, 2, 0, 0, 3), (MANY,) * 6
        self.assertEqual(one_end(GREATEST, low, high), ("same", low))
        word, first, second = one_end(GREATEST, (0,) * 6, high)
        self.assertEqual(word, "part")
        self.assertNotEqual(GREATEST.end(first), GREATEST.end(second))


class WrongArguments(Case):
    CALLS = [lambda low, high: range_of(RULE, low, high, 9), lambda low, high: range_of(RULE, low, high, 0),
             lambda low, high: crowd_with(RULE, low, high, -1, 0),
             lambda low, high: crowd_with(RULE, low, high, 0, 0), lambda low, high: one_end(RULE, low, high)]

    def test_low_then_high_then_low_within_high(self):
        for call in self.CALLS:
            for wrong in [(5, 0), (0, 6), (-1, 0), (1,), (1, 1, 1), ()]:
                self.fails(BadCrowd, {"crowd": wrong}, call, wrong, (9, 9))
                self.fails(BadCrowd, {"crowd": wrong}, call, wrong, (4, 5))
                self.fails(BadCrowd, {"crowd": wrong}, call, (0, 0), wrong)
                self.fails(BadCrowd, {"crowd": wrong}, call, (4, 5), wrong)
            self.fails(BadCrowd, {"crowd": (1, 2)}, call, (1, 2), (4, 1))
            self.fails(BadCrowd, {"crowd": (2, 0)}, call, (2, 0), (1, 5))

    def test_then_the_kind(self):
        for kind in [-1, 2, MANY]:
            self.fails(BadKind, {"kind": kind}, range_of, RULE, (0, 0), (1, 1), kind)
            self.fails(BadKind, {"kind": kind}, crowd_with, RULE, (0, 0), (1, 1), kind, 0)
            self.fails(BadKind, {"kind": kind}, crowd_with, RULE, (1, 1), (1, 1), kind, -5)


if __name__ == "__main__":
    unittest.main()
