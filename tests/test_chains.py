"""Chains and lines: points [56], [57] and the heading fewchairs/chains.py."""

import itertools
import unittest

from fewchairs.chains import Chain, chain_fault
from fewchairs.errors import BadCrowd, NoChair, NotNested, WrongHouse
from fewchairs.houses import House
from fewchairs.makers import order_custom
from fewchairs.rules import Rule
from tests.helpers import (MANY, Case, all_crowds, counted, crowds_of_size, free_rules, order_rule, plainly_nested,
                           row_chain, rule_rows)

ROWS = (rule_rows((3, 3), 2) + rule_rows((3, 4), 3, 3) + rule_rows((1, 1, 1), 3) + rule_rows((2, 1, 1), 2, 3)
        + rule_rows((1, 1, 1, 1), 2, 2))
CHAINS = [Chain(rules) for rules in ROWS if plainly_nested(rules)]


def plain_fault(rules):
    """The least j and the first crowd of j + 2 guests whose end with j chairs is not within that with j + 1."""
    for j in range(1, len(rules)):
        for crowd in crowds_of_size(rules[0].house, j + 2):
            pairs = zip(rules[j - 1].end(crowd), rules[j].end(crowd))
            if not all(count <= more for count, more in pairs):
                return (j, crowd)
    return None


class Faults(Case):
    def test_all_rules_of_small_houses(self):
        faults = 0
        for rules in ROWS:
            found = chain_fault(rules)
            self.assertEqual(found, plain_fault(rules))
            self.assertEqual(found is None, plainly_nested(rules))
            if found is not None:
                self.assertIsInstance(found, tuple)
                faults += 1
        self.assertGreater(faults, 100)
        self.assertGreater(len(CHAINS), 100)

    def test_a_fault(self):
        one, two = order_rule(House(3, 1), [0, 1, 2]), order_rule(House(3, 2), [2, 1, 0])
        self.assertEqual(chain_fault([one, two]), (1, (0, 1, 2)))
        self.assertIsNone(chain_fault([one, order_rule(House(3, 2), [0, 1, 2])]))

    def test_the_least_number_of_chairs_comes_first(self):
        rules = [order_rule(House(2, chairs), [0, 1] if chairs % 2 else [1, 0]) for chairs in (1, 2, 3)]
        self.assertEqual(chain_fault(rules), (1, (1, 2)))
        rules[1] = order_rule(House(2, 2), [0, 1])
        rules[2] = order_rule(House(2, 3), [1, 0])
        self.assertEqual(chain_fault(rules), (2, (1, 3)))

    def test_one_and_five_rules(self):
        for rule in free_rules(House(2, 1, most=(2, 2))) + [order_rule(House(6, 1), [3, 1, 0, 5, 4, 2])]:
            self.assertIsNone(chain_fault([rule]))
        rules = row_chain(6, 5)
        self.assertIsNone(chain_fault(rules))
        rules[4] = order_rule(House(6, 5), [5, 4, 3, 2, 1, 0])
        self.assertEqual(chain_fault(rules), plain_fault(rules))

    def test_arguments_stay(self):
        rules = row_chain(3, 3)
        kept = list(rules)
        chain_fault(rules)
        Chain(rules)
        self.assertEqual(rules, kept)


class Chains(Case):
    def test_attributes(self):
        for chairs in (1, 2, 5):
            rules = row_chain(3, chairs)
            chain = Chain(rules)
            self.assertIsInstance(chain.rules, tuple)
            self.assertEqual((chain.rules, chain.most_chairs), (tuple(rules), chairs))

    def test_a_changed_list_changes_nothing(self):
        rules = row_chain(2, 3)
        chain = Chain(rules)
        kept = tuple(rules)
        rules.reverse()
        rules.pop()
        self.assertEqual((chain.rules, chain[1], chain.most_chairs), (kept, kept[0], 3))

    def test_rules_by_their_chairs(self):
        rules = row_chain(3, 4)
        chain = Chain(rules)
        for chairs in (1, 2, 3, 4):
            self.assertIs(chain[chairs], rules[chairs - 1])
        for chairs in (0, -1, -4, 5, 6, MANY, -MANY):
            self.fails(NoChair, {"chairs": chairs}, lambda at: chain[at], chairs)
        self.fails(NoChair, {"chairs": 2}, lambda at: Chain(rules[:1])[at], 2)

    def test_iteration(self):
        rules = row_chain(3, 4)
        self.assertEqual(list(Chain(rules)), rules)
        self.assertEqual([rule.house.chairs for rule in Chain(rules)], [1, 2, 3, 4])
        one, two = Chain(rules[:2])
        self.assertEqual((one, two), (rules[0], rules[1]))

    def test_wrong_rules(self):
        rules = row_chain(2, 5)
        self.fails(WrongHouse, {"what": "halls"}, Chain, [])
        self.fails(WrongHouse, {"what": "halls"}, Chain, rules + rules[:1])
        other = order_rule(House(2, 2, most=(3, 3)), [0, 1])
        for wrong in [[rules[0], other], [other, rules[1]], rules[:3] + [other], [other, other, rules[0]]]:
            self.fails(WrongHouse, {"what": "guests"}, Chain, wrong)
        for wrong in [rules[1:2], rules[::-1], [rules[0], rules[2]], [rules[0], rules[0]], rules[:2] + rules[3:]]:
            self.fails(WrongHouse, {"what": "chairs"}, Chain, wrong)
        one, two = order_rule(House(3, 1), [0, 1, 2]), order_rule(House(3, 2), [2, 1, 0])
        self.fails(NotNested, {"chairs": 1, "crowd": (0, 1, 2)}, Chain, [one, two])

    def test_the_order_of_the_errors(self):
        other = order_rule(House(3, 3), [2, 1, 0])
        one, two = order_rule(House(2, 1), [0, 1]), order_rule(House(2, 2), [1, 0])
        self.fails(WrongHouse, {"what": "halls"}, Chain, [two, other, one, one, two, other])
        self.fails(WrongHouse, {"what": "guests"}, Chain, [two, one, other])
        self.fails(WrongHouse, {"what": "chairs"}, Chain, [one, two, two])
        self.fails(NotNested, {"chairs": 1, "crowd": (1, 2)}, Chain, [one, two])

    def test_all_small_rules(self):
        for rules in ROWS[::3]:
            fault = plain_fault(rules)
            if fault is not None:
                self.fails(NotNested, {"chairs": fault[0], "crowd": fault[1]}, Chain, rules)


class Lines(Case):
    def test_a_line(self):
        chain = Chain([order_rule(House(2, 1), [1, 0]), Rule(order_custom(House(2, 2), [1, 0]))])
        self.assertEqual(chain.line((3, 1)), [1, 0])
        self.assertEqual(chain.line((3, 0)), [0, 0])
        self.assertEqual(chain.line((0, 1)), [1])
        self.assertEqual(chain.line((0, 0)), [])

    def test_the_first_guests_are_the_ends(self):
        for chain in CHAINS:
            for crowd in all_crowds(chain.rules[0].house.most):
                line = chain.line(crowd)
                self.assertIsInstance(line, list)
                self.assertEqual(len(line), min(chain.most_chairs, sum(crowd)))
                for chairs in range(1, chain.most_chairs + 1):
                    self.assertEqual(counted(line[:chairs], len(crowd)), chain[chairs].end(crowd))

    def test_nobody_is_later_in_a_lesser_crowd(self):
        for chain in CHAINS[::9]:
            crowds = all_crowds(chain.rules[0].house.most)
            for crowd, lesser in itertools.product(crowds, crowds):
                if all(a <= b for a, b in zip(lesser, crowd)):
                    line, shorter = chain.line(crowd), chain.line(lesser)
                    for place, kind in enumerate(line):
                        which = line[:place + 1].count(kind)
                        if lesser[kind] >= which:
                            places = [at for at, other in enumerate(shorter) if other == kind]
                            self.assertLessEqual(places[which - 1], place)

    def test_many_guests(self):
        chain = Chain(row_chain(6, 5))
        for crowd in [(MANY,) * 6, (0, MANY, 0, 0, 0, 0), (1, 0, MANY, 0, 2, MANY), (0, 0, 0, 1, 0, 1)]:
            line = chain.line(crowd)
            self.assertEqual(len(line), min(5, sum(crowd)))
            for chairs in (1, 2, 3, 4, 5):
                self.assertEqual(counted(line[:chairs], 6), chain[chairs].end(crowd))

    def test_one_rule(self):
        chain = Chain([order_rule(House(3, 1), [1, 2, 0])])
        self.assertEqual(chain.line((4, 0, 7)), [2])
        self.assertEqual(chain.line((0, 0, 0)), [])

    def test_a_changed_line_changes_nothing(self):
        chain = Chain(row_chain(2, 3))
        line = chain.line((2, 5))
        chain.line((2, 5)).clear()
        self.assertEqual(chain.line((2, 5)), line)

    def test_wrong_crowds(self):
        chain = Chain(row_chain(2, 3, most=(3, 2)))
        for crowd in [(4, 0), (0, 3), (-1, 0), (1,), (1, 1, 1), ()]:
            self.fails(BadCrowd, {"crowd": crowd}, chain.line, crowd)


if __name__ == "__main__":
    unittest.main()
