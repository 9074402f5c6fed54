"""Two rules compared: point [28] and the heading fewchairs/compare.py."""

import itertools
import unittest

from fewchairs.compare import never_fewer, not_inside
from fewchairs.customs import Custom
from fewchairs.errors import BadKind, WrongHouse
from fewchairs.houses import House
from fewchairs.look import is_free
from fewchairs.rules import Rule
from tests.helpers import GREATEST, MANY, Case, all_crowds, all_customs, order_rule

TWO = order_rule(House(2, 2), [1, 0])
ONE = order_rule(House(2, 1), [1, 0])


def rules_of(kinds, most, chairs):
    """All rules of the houses with these guests and numbers of chairs."""
    return [Rule(custom) for number in chairs for custom in all_customs(House(kinds, number, most=most))
            if is_free(custom)]


PAIRS = (list(itertools.product(rules_of(2, (3, 3), (1, 2, 3)), repeat=2))
         + list(itertools.product(rules_of(3, (1, 1, 2), (1, 2)), repeat=2))
         + list(itertools.product(rules_of(3, (1, 1, 1), (1, 2, 3)), repeat=2)))


class NeverFewer(Case):
    def test_two_kinds(self):
        self.assertIsNone(never_fewer(TWO, ONE, 0))
        self.assertIsNone(never_fewer(TWO, ONE, 1))
        self.assertEqual(never_fewer(ONE, TWO, 0), (1, 1))
        self.assertEqual(never_fewer(ONE, TWO, 1), (0, 2))
        self.assertEqual(never_fewer(TWO, order_rule(House(2, 2), [0, 1]), 0), (1, 2))
        self.assertIsNone(never_fewer(TWO, order_rule(House(2, 2), [0, 1]), 1))

    def test_over_all_crowds_and_over_meetings(self):
        seen = set()
        for first, second in PAIRS:
            for kind in range(first.house.kinds):
                fewer = [crowd for crowd in all_crowds(first.house.most)
                         if first.end(crowd)[kind] < second.end(crowd)[kind]]
                meetings = [crowd for crowd in fewer if sum(crowd) == first.house.chairs + 1]
                found = never_fewer(first, second, kind)
                self.assertEqual(found is None, not fewer)
                self.assertEqual(found, meetings[0] if meetings else None)
                seen.add(found is None)
        self.assertEqual(seen, {True, False})

    def test_the_greatest_house(self):
        other = order_rule(House(6, 5), [2, 4, 0, 1, 3, 5])
        self.assertIsNone(never_fewer(GREATEST, GREATEST, 0))
        self.assertIsNone(never_fewer(GREATEST, order_rule(House(6, 2), [2, 4, 0, 1, 3, 5]), 2))
        found = never_fewer(GREATEST, other, 2)
        self.assertLess(GREATEST.end(found)[2], other.end(found)[2])

    def test_other_guests(self):
        for house in [House(3, 2), House(2, 2, most=(MANY, MANY - 1)), House(1, 2), House.unlike(2, 2)]:
            rule = order_rule(house, list(range(house.kinds)))
            self.fails(WrongHouse, {"what": "guests"}, never_fewer, TWO, rule, 0)
            self.fails(WrongHouse, {"what": "guests"}, never_fewer, rule, TWO, 99)

    def test_wrong_kinds(self):
        for kind in [-1, 2, MANY]:
            self.fails(BadKind, {"kind": kind}, never_fewer, TWO, ONE, kind)

    def test_houses_without_meetings(self):
        rule = Rule(Custom(House.unlike(2, 2), []))
        self.assertIsNone(never_fewer(rule, rule, 1))
        self.assertIsNone(never_fewer(rule, order_rule(House.unlike(2, 1), [0, 1]), 1))
        self.assertEqual(never_fewer(order_rule(House.unlike(2, 1), [0, 1]), rule, 1), (1, 1))


class NotInside(Case):
    def test_two_kinds(self):
        self.assertIsNone(not_inside(ONE, TWO))
        self.assertIsNone(not_inside(TWO, TWO))
        self.assertEqual(not_inside(TWO, ONE), (0, 2))
        self.assertEqual(not_inside(order_rule(House(2, 1), [0, 1]), TWO), (1, 2))

    def test_over_all_crowds_and_over_meetings(self):
        seen = set()
        for first, second in PAIRS:
            outside = [crowd for crowd in all_crowds(first.house.most)
                       if any(one > other for one, other in zip(first.end(crowd), second.end(crowd)))]
            meetings = [crowd for crowd in outside if sum(crowd) == second.house.chairs + 1]
            found = not_inside(first, second)
            self.assertEqual(found is None, not outside)
            self.assertEqual(found, meetings[0] if meetings else None)
            seen.add(found is None)
        self.assertEqual(seen, {True, False})

    def test_the_greatest_house(self):
        self.assertIsNone(not_inside(order_rule(House(6, 2), [2, 4, 0, 1, 3, 5]), GREATEST))
        self.assertIsNotNone(not_inside(GREATEST, order_rule(House(6, 5), [2, 4, 0, 1, 3, 5])))

    def test_other_guests(self):
        for house in [House(3, 2), House(2, 2, most=(MANY, 1)), House.unlike(2, 2)]:
            rule = order_rule(house, list(range(house.kinds)))
            self.fails(WrongHouse, {"what": "guests"}, not_inside, TWO, rule)
            self.fails(WrongHouse, {"what": "guests"}, not_inside, rule, TWO)


if __name__ == "__main__":
    unittest.main()
