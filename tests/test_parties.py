"""Parties: point [27] and the heading fewchairs/parties.py."""

import itertools
import unittest

from fewchairs.crowds import plus
from fewchairs.errors import BadCrowd, BadKind, TooManyOf, WrongHouse
from fewchairs.houses import House
from fewchairs.parties import Party, together
from tests.helpers import GREATEST, MANY, RULES, Case, all_crowds, order_rule

RULE = order_rule(House(2, 2), [1, 0])


def summed(kinds, *crowds):
    return tuple(sum(crowd[kind] for crowd in crowds) for kind in range(kinds))


class Parties(Case):
    def test_attributes(self):
        party = Party(RULE, (3, 1))
        self.assertIs(party.rule, RULE)
        self.assertEqual(party.crowd, (3, 1))
        self.assertEqual(party.sitting, (1, 1))

    def test_the_end_is_left(self):
        for rule in RULES:
            for crowd in all_crowds(rule.house.most):
                self.assertEqual(Party(rule, crowd).sitting, rule.end(crowd))
        self.assertEqual(Party(GREATEST, (MANY,) * 6).sitting, (0, 0, 2, 0, 0, 3))
        self.assertEqual(Party(RULE, (0, 0)).sitting, (0, 0))

    def test_wrong_crowds(self):
        rule = order_rule(House(2, 2, most=(3, 4)), [1, 0])
        for crowd in [(4, 0), (0, 5), (-1, 0), (1,), (1, 1, 1), ()]:
            self.fails(BadCrowd, {"crowd": crowd}, Party, rule, crowd)

    def test_counts_by_kind(self):
        party = Party(RULE, (5, 1))
        self.assertEqual([party[0], party[1]], [1, 1])
        self.assertEqual(Party(RULE, (0, 7))[1], 2)
        self.assertEqual(Party(RULE, (0, 7))[0], 0)
        for kind in [-1, 2, -2, MANY]:
            self.fails(BadKind, {"kind": kind}, lambda at: party[at], kind)

    def test_in(self):
        party = Party(RULE, (5, 0))
        self.assertIs(0 in party, True)
        for kind in [1, 2, -1, -2, MANY]:
            self.assertIs(kind in party, False)
        self.assertIs(0 in Party(RULE, (5, 2)), False)
        self.assertEqual([kind in Party(RULE, (0, 5)) for kind in (-2, -1, 0, 1, 2)],
                         [False, False, False, True, False])
        self.assertEqual([kind in Party(RULE, (1, 1)) for kind in (-1, 0, 1, 2)], [False, True, True, False])

    def test_iteration(self):
        self.assertEqual(list(Party(RULE, (5, 1))), [1, 1])
        self.assertEqual(tuple(Party(GREATEST, (MANY,) * 6)), (0, 0, 2, 0, 0, 3))
        first, second = Party(RULE, (0, 9))
        self.assertEqual((first, second), (0, 2))


class Joining(Case):
    def test_two_parties(self):
        joined = Party(RULE, (3, 0)) + Party(RULE, (1, 1))
        self.assertIsInstance(joined, Party)
        self.assertEqual(joined.crowd, (4, 1))
        self.assertEqual(joined.sitting, (1, 1))
        self.assertTrue(joined.rule == RULE)

    def test_however_a_crowd_is_divided(self):
        for rule in RULES[::4]:
            crowds = [crowd for crowd in all_crowds(rule.house.most) if sum(crowd) <= 3]
            for parts in itertools.product(crowds, repeat=2):
                whole = summed(rule.house.kinds, *parts)
                if rule.house.has(whole):
                    one, other = [Party(rule, crowd) for crowd in parts]
                    self.assertEqual((one + other).sitting, rule.end(whole))
                    self.assertEqual((one + other).crowd, whole)
                    self.assertEqual(rule.end(plus(one.sitting, other.sitting)), rule.end(whole))
                    self.assertEqual(together(rule, *parts), rule.end(whole))

    def test_in_whatever_order_three_parties_join(self):
        for rule in RULES[::12]:
            crowds = [crowd for crowd in all_crowds(rule.house.most) if 0 < sum(crowd) <= 2]
            for parts in itertools.combinations_with_replacement(crowds, 3):
                whole = summed(rule.house.kinds, *parts)
                if rule.house.has(whole):
                    for one, two, three in itertools.permutations([Party(rule, crowd) for crowd in parts]):
                        self.assertEqual(((one + two) + three).sitting, rule.end(whole))
                        self.assertEqual((one + (two + three)).sitting, rule.end(whole))
                    self.assertEqual(together(rule, *parts), rule.end(whole))

    def test_joining_changes_neither(self):
        one, other = Party(RULE, (3, 0)), Party(RULE, (1, 1))
        one + other
        self.assertEqual((one.crowd, one.sitting, other.crowd, other.sitting), ((3, 0), (2, 0), (1, 1), (1, 1)))
        doubled = one + one
        self.assertEqual((doubled.crowd, one.crowd), ((6, 0), (3, 0)))

    def test_equal_rules_are_enough(self):
        joined = Party(RULE, (3, 0)) + Party(order_rule(House(2, 2), [1, 0]), (1, 1))
        self.assertEqual(joined.crowd, (4, 1))

    def test_other_customs(self):
        one = Party(RULE, (3, 0))
        for rule in [order_rule(House(2, 2), [0, 1]), order_rule(House(2, 1), [1, 0]),
                     order_rule(House(2, 2, most=(9, 9)), [1, 0]), order_rule(House(3, 2), [1, 0, 2])]:
            crowd = (1,) * rule.house.kinds
            self.fails(WrongHouse, {"what": "custom"}, lambda other: one + other, Party(rule, crowd))

    def test_too_many_together(self):
        rule = order_rule(House(3, 2, most=(3, 4, MANY)), [1, 0, 2])
        one, other = Party(rule, (2, 4, MANY)), Party(rule, (1, 1, 1))
        self.fails(TooManyOf, {"kind": 1}, lambda: one + other)
        self.fails(TooManyOf, {"kind": 0}, lambda: one + one)
        self.fails(TooManyOf, {"kind": 2}, lambda: Party(rule, (0, 0, MANY)) + other)
        self.assertEqual((Party(rule, (3, 0, MANY)) + Party(rule, (0, 4, 0))).crowd, (3, 4, MANY))
        self.assertEqual((one.crowd, other.crowd), ((2, 4, MANY), (1, 1, 1)))

    def test_the_custom_is_looked_at_before_the_most(self):
        one = Party(order_rule(House.unlike(2, 1), [0, 1]), (1, 1))
        other = Party(order_rule(House.unlike(2, 1), [1, 0]), (1, 1))
        self.fails(WrongHouse, {"what": "custom"}, lambda: one + other)


class Together(Case):
    def test_no_crowds(self):
        self.assertEqual(together(RULE), (0, 0))
        self.assertEqual(together(GREATEST), (0,) * 6)

    def test_one_and_several_crowds(self):
        self.assertEqual(together(RULE, (5, 0)), (2, 0))
        self.assertEqual(together(RULE, (5, 0), (1, 1)), (1, 1))
        self.assertEqual(together(RULE, (5, 0), (1, 1), (0, 1), (0, 0)), (0, 2))
        self.assertEqual(together(GREATEST, *[(1, 0, 0, 0, 0, 0)] * 50), (5, 0, 0, 0, 0, 0))

    def test_wrong_crowds(self):
        rule = order_rule(House(2, 2, most=(3, 4)), [1, 0])
        self.fails(BadCrowd, {"crowd": (4, 0)}, together, rule, (3, 4), (3, 4), (4, 0), (5, 5))
        self.fails(BadCrowd, {"crowd": (1,)}, together, rule, (1,), (-1, 0))
        self.fails(BadCrowd, {"crowd": (-1, 4)}, together, rule, (3, 4), (-1, 4))

    def test_too_many(self):
        rule = order_rule(House(2, 2, most=(3, 4)), [1, 0])
        self.assertEqual(together(rule, (3, 0), (0, 4)), (0, 2))
        self.fails(TooManyOf, {"kind": 0}, together, rule, (3, 4), (1, 1))
        self.fails(TooManyOf, {"kind": 1}, together, rule, (1, 2), (1, 2), (1, 1))
        self.fails(TooManyOf, {"kind": 0}, together, RULE, (MANY, MANY), (1, 0))


if __name__ == "__main__":
    unittest.main()
