"""Halls in a row: point [45] and the heading fewchairs/hallrows.py."""

import itertools
import unittest

from fewchairs.errors import BadCrowd, WrongHouse
from fewchairs.hallrows import held
from fewchairs.halls import Hall
from fewchairs.houses import House
from fewchairs.makers import most_custom
from fewchairs.rules import Rule
from tests.helpers import GREATEST, MANY, Case, all_crowds, all_rows, counted, free_rules, order_rule


def walked(rules, row):
    """What the halls hold and who is at home if each guest goes on at once."""
    halls = [Hall(rule.custom) for rule in rules]
    home = []
    for kind in row:
        for hall in halls:
            kind = hall.come(kind)
            if kind is None:
                break
        else:
            home.append(kind)
    return [hall.sitting for hall in halls] + [counted(home, rules[0].house.kinds)]


def waited(rules, row):
    """The same if nobody goes on before all have come to a hall, and then the last one goes first."""
    coming, shown = list(row), []
    for rule in rules:
        hall = Hall(rule.custom)
        coming = [goes for goes in [hall.come(kind) for kind in coming] if goes is not None][::-1]
        shown.append(hall.sitting)
    return shown + [counted(coming, rules[0].house.kinds)]


class Held(Case):
    def test_two_halls(self):
        first, second = order_rule(House(2, 1), [0, 1]), order_rule(House(2, 2), [1, 0])
        self.assertEqual(held((5, 1), first, second), [(1, 0), (1, 1), (3, 0)])
        self.assertEqual(held((5, 1), second, first), [(1, 1), (1, 0), (3, 0)])
        self.assertEqual(held((1, 0), first, second), [(1, 0), (0, 0), (0, 0)])

    def test_one_hall(self):
        rule = order_rule(House(3, 2), [2, 0, 1])
        self.assertEqual(held((4, 5, 1), rule), [(1, 0, 1), (3, 5, 0)])
        self.assertEqual(held((0, 0, 0), rule), [(0, 0, 0), (0, 0, 0)])

    def test_no_rules(self):
        for crowd in [(1, 2), (), (-1, MANY ** 2), (0,) * 9]:
            self.assertEqual(held(crowd), [crowd])

    def test_however_the_guests_walk(self):
        house = [House(2, chairs, most=(3, 3)) for chairs in (1, 2)]
        rules = [free_rules(house[0]), free_rules(house[1])]
        for pair in itertools.product(rules[0] + rules[1], repeat=2):
            for crowd in all_crowds((3, 3))[::3]:
                for row in all_rows(crowd):
                    self.assertEqual(held(crowd, *pair), walked(pair, row))
                    self.assertEqual(held(crowd, *pair), waited(pair, row))

    def test_however_unlike_guests_walk(self):
        rules = free_rules(House.unlike(4, 1))[::5] + free_rules(House.unlike(4, 2))[::7]
        for three in itertools.permutations(rules, 3):
            if sum(rule.house.chairs for rule in three) <= 4:
                for row in list(itertools.permutations(range(4)))[::5]:
                    self.assertEqual(held((1,) * 4, *three), walked(three, row))
                    self.assertEqual(held((1,) * 4, *three), waited(three, row))

    def test_together_they_are_one_custom(self):
        rules = free_rules(House(2, 1, most=(4, 3))) + free_rules(House(2, 2, most=(4, 3)))
        for first, second in itertools.product(rules, repeat=2):
            both = first >> second
            for crowd in all_crowds((4, 3)):
                one, other, home = held(crowd, first, second)
                self.assertEqual(tuple(a + b for a, b in zip(one, other)), both.end(crowd))
                self.assertEqual(tuple(a + b for a, b in zip(both.end(crowd), home)), crowd)
                self.assertEqual(one, first.end(crowd))

    def test_seven_rules_with_more_than_five_chairs(self):
        rules = [order_rule(House(6, 5), order) for order in itertools.islice(itertools.permutations(range(6)), 6)]
        rules.insert(3, GREATEST)
        crowds = held((MANY, 3, MANY, 7, 0, MANY), *rules)
        self.assertEqual(len(crowds), 8)
        self.assertEqual([sum(crowd) for crowd in crowds[:7]], [5] * 7)
        self.assertEqual([sum(counts) for counts in zip(*crowds)], [MANY, 3, MANY, 7, 0, MANY])
        rest = (MANY, 3, MANY, 7, 0, MANY)
        for rule, crowd in zip(rules, crowds):
            self.assertEqual(crowd, rule.end(rest))
            rest = tuple(a - b for a, b in zip(rest, crowd))
        self.assertEqual(crowds[7], rest)
        self.assertEqual(held((MANY,) * 6, *[GREATEST] * 30)[-1][0], MANY - 30 * GREATEST.sure[0])

    def test_one_rule_in_several_halls(self):
        rule = order_rule(House(2, 1, most=(2, 1)), [1, 0])
        self.assertEqual(held((2, 1), rule, rule, rule, rule), [(0, 1), (1, 0), (1, 0), (0, 0), (0, 0)])

    def test_a_changed_result_changes_nothing(self):
        rule = order_rule(House(2, 1), [1, 0])
        held((2, 1), rule).clear()
        held((2, 1)).clear()
        self.assertEqual(held((2, 1), rule), [(0, 1), (2, 0)])
        self.assertEqual(held((2, 1)), [(2, 1)])


class Wrong(Case):
    def test_other_guests(self):
        rule = order_rule(House(2, 1), [1, 0])
        for other in [order_rule(House(2, 1, most=(3, 3)), [1, 0]), order_rule(House(3, 1), [1, 0, 2]),
                      order_rule(House(1, 1), [0])]:
            for rules in [(rule, other), (other, rule), (rule, rule, other), (other, rule, rule), (rule, other, rule)]:
                self.fails(WrongHouse, {"what": "guests"}, held, (1, 1), *rules)
                self.fails(WrongHouse, {"what": "guests"}, held, (-1,), *rules)

    def test_wrong_crowds(self):
        rule = Rule(most_custom(House(2, 1, most=(3, MANY))))
        for crowd in [(4, 0), (-1, 0), (1,), (1, 1, 1), (), (0, MANY + 1)]:
            self.fails(BadCrowd, {"crowd": crowd}, held, crowd, rule)
            self.fails(BadCrowd, {"crowd": crowd}, held, crowd, rule, rule, rule)


if __name__ == "__main__":
    unittest.main()
