"""One kind more: point [58] and the heading fewchairs/extras.py."""

import unittest

from fewchairs.chains import Chain
from fewchairs.errors import BadKind, WrongHouse
from fewchairs.extras import chain_of, joined
from fewchairs.houses import House
from fewchairs.look import is_free
from fewchairs.rules import Rule
from tests.helpers import (MANY, Case, all_crowds, crowds_of_size, free_rules, order_rule, plainly_nested, row_chain,
                           rule_rows)

ROWS = (rule_rows((3, 3), 2) + rule_rows((3, 4), 3, 3) + rule_rows((1, 1, 1), 2) + rule_rows((1, 1, 1), 3)
        + rule_rows((2, 1), 3) + rule_rows((5,), 2) + rule_rows((1, 1, 1, 1), 2, 5))


class Joined(Case):
    def test_who_goes(self):
        for rules in ROWS:
            custom, house = joined(rules), rules[0].house
            chairs = len(rules)
            self.assertTrue(custom.house == House(house.kinds + 1, chairs, most=house.most + (chairs - 1,)))
            for meeting in crowds_of_size(custom.house, chairs + 1):
                rule = rules[chairs - meeting[-1] - 1]
                self.assertEqual(custom(meeting), rule.custom(meeting[:-1]))

    def test_order_free_exactly_if_nested(self):
        nested = 0
        for rules in ROWS:
            custom = joined(rules)
            self.assertEqual(is_free(custom), plainly_nested(rules))
            if is_free(custom):
                nested += 1
                rule = Rule(custom)
                for crowd in all_crowds(custom.house.most):
                    extra = crowd[-1]
                    self.assertEqual(rule.end(crowd), rules[-1 - extra].end(crowd[:-1]) + (extra,))
        self.assertGreater(nested, 50)
        self.assertGreater(len(ROWS) - nested, 50)

    def test_five_rules_and_many_guests(self):
        rules = row_chain(5, 5)
        custom = joined(rules)
        self.assertTrue(custom.house == House(6, 5, most=(MANY,) * 5 + (4,)))
        rule = Rule(custom)
        for extra in range(5):
            for crowd in [(MANY,) * 5, (0, 1, 2, 0, MANY), (0,) * 5]:
                self.assertEqual(rule.end(crowd + (extra,)), rules[4 - extra].end(crowd) + (extra,))

    def test_wrong_rules(self):
        for kinds in (1, 3, 6):
            self.fails(WrongHouse, {"what": "chairs"}, joined, row_chain(kinds, 1))
        for chairs in (2, 5):
            self.fails(WrongHouse, {"what": "kinds"}, joined, row_chain(6, chairs))

    def test_arguments_stay(self):
        rules = row_chain(3, 3)
        kept = list(rules)
        joined(rules)
        self.assertEqual(rules, kept)


class ChainOf(Case):
    def test_there_and_back(self):
        for rules in ROWS:
            if plainly_nested(rules):
                chain = chain_of(Rule(joined(rules)))
                self.assertIsInstance(chain, Chain)
                self.assertEqual(list(chain.rules), rules)

    def test_each_custom_whose_last_kind_never_goes(self):
        found = 0
        for house in [House(2, 2, most=(4, 1)), House(3, 2, most=(2, 2, 1)), House(4, 2, most=(1, 1, 1, 1)),
                      House(2, 3, most=(5, 2)), House(3, 3, most=(2, 2, 2)), House(3, 3, most=(1, 2, 2))]:
            for rule in free_rules(house):
                if house.kinds - 1 in rule.custom.answers:
                    self.fails(BadKind, {"kind": house.kinds - 1}, chain_of, rule)
                else:
                    chain = chain_of(rule)
                    self.assertTrue(joined(list(chain.rules)) == rule.custom)
                    self.assertEqual(chain.most_chairs, house.chairs)
                    self.assertEqual(chain.rules[0].house.most, house.most[:-1])
                    found += 1
        self.assertGreater(found, 20)

    def test_five_chairs(self):
        rules = row_chain(5, 5, first=2)
        self.assertEqual(list(chain_of(Rule(joined(rules))).rules), rules)

    def test_no_meeting_with_the_last_kind_alone(self):
        chain = chain_of(order_rule(House(2, 2, most=(1, 1)), [1, 0]))
        self.assertEqual([rule.custom.answers for rule in chain], [(), ()])

    def test_wrong_rules(self):
        for most in [(), (1, 1), (2, 1)]:
            self.fails(WrongHouse, {"what": "chairs"}, chain_of, order_rule(House(2, 1, most=most), [1, 0]))
        self.fails(WrongHouse, {"what": "chairs"}, chain_of, order_rule(House(1, 1), [0]))
        for chairs in (2, 3, 5):
            self.fails(WrongHouse, {"what": "kinds"}, chain_of, order_rule(House(1, chairs), [0]))
            self.fails(WrongHouse, {"what": "kinds"}, chain_of, order_rule(House(1, chairs, most=(chairs - 1,)), [0]))
        for last in (1, 3, 4, MANY):
            for order in ([2, 0, 1], [0, 1, 2]):
                rule = order_rule(House(3, 3, most=(9, 9, last)), order)
                self.fails(WrongHouse, {"what": "most"}, chain_of, rule)
        self.fails(BadKind, {"kind": 2}, chain_of, order_rule(House(3, 3, most=(9, 9, 2)), [0, 2, 1]))
        self.fails(BadKind, {"kind": 1}, chain_of, order_rule(House(2, 2, most=(9, 1)), [0, 1]))


if __name__ == "__main__":
    unittest.main()
