"""Rules: points [22], [23], [24] and [45], and the heading fewchairs/rules.py."""

import unittest

from fewchairs.customs import Custom
from fewchairs.errors import BadCrowd, BadKind, NotFree, WrongHouse
from fewchairs.houses import House
from fewchairs.look import first_fault, is_free
from fewchairs.makers import fewest_custom, most_custom, order_custom
from fewchairs.rules import Rule
from tests.helpers import (MANY, RULES, SMALL_HOUSES, Case, all_crowds, all_customs, all_rows, counted,
                           order_rule, plain_ends, plain_left)

class Making(Case):
    def test_attributes(self):
        custom = order_custom(House(2, 2), [1, 0])
        rule = Rule(custom)
        self.assertEqual(rule.custom, custom)
        self.assertEqual(rule.house, House(2, 2))

    def test_a_custom_that_is_not_order_free(self):
        self.fails(NotFree, {"group": (2, 2)}, Rule, fewest_custom(House(2, 2)))
        for house in SMALL_HOUSES:
            for custom in all_customs(house):
                group = first_fault(custom)
                if group is not None:
                    self.fails(NotFree, {"group": group}, Rule, custom)

    def test_equal_rules(self):
        rule = order_rule(House(2, 2), [1, 0])
        self.assertTrue(rule == order_rule(House(2, 2), [1, 0]))
        self.assertFalse(rule != order_rule(House(2, 2), [1, 0]))
        self.assertFalse(rule == order_rule(House(2, 2), [0, 1]))
        self.assertFalse(rule == order_rule(House(2, 2, most=(9, 9)), [1, 0]))
        self.assertFalse(rule == rule.custom)
        self.assertFalse(Rule(Custom(House.unlike(2, 2), [])) == Rule(Custom(House.unlike(2, 3), [])))


class EndsOfCrowds(Case):
    def test_each_row_leaves_the_end(self):
        for rule in RULES:
            for crowd in all_crowds(rule.house.most):
                self.assertEqual([rule.end(crowd)], list(plain_ends(rule.custom, crowd)))

    def test_great_crowds(self):
        rule = order_rule(House(6, 5), [2, 4, 0, 1, 3, 5])
        self.assertEqual(rule.end((MANY,) * 6), (0, 0, 5, 0, 0, 0))
        self.assertEqual(rule.end((MANY, MANY, 1, 0, 3, MANY)), (1, 0, 1, 0, 3, 0))
        self.assertEqual(rule.end((0, 1, 0, 0, 0, 1)), (0, 1, 0, 0, 0, 1))
        self.assertEqual(rule.end((0,) * 6), (0,) * 6)
        self.assertEqual(Rule(most_custom(House(2, 3))).end((MANY, MANY)), (2, 1))
        self.assertEqual(order_rule(House(1, 4), [0]).end((MANY,)), (4,))

    def test_the_small_crowd_has_the_same_end(self):
        for house in (House(2, 2, most=(6, 6)), House(3, 1, most=(4, 4, 4))):
            for custom in all_customs(house):
                if is_free(custom):
                    rule = Rule(custom)
                    for crowd in all_crowds(house.most):
                        small = tuple(min(count, house.chairs) for count in crowd)
                        self.assertEqual(rule.end(crowd), rule.end(small))
                        row = [kind for kind in range(house.kinds) for _ in range(crowd[kind])]
                        self.assertEqual(rule.end(crowd), plain_left(custom, row[::-1]))

    def test_who_is_left_of_the_greater_crowd_is_left_of_the_lesser_one(self):
        for rule in RULES[::3]:
            for crowd in all_crowds(rule.house.most):
                end = rule.end(crowd)
                for inner in all_crowds(crowd):
                    other = rule.end(inner)
                    for kind in range(rule.house.kinds):
                        self.assertGreaterEqual(other[kind], min(inner[kind], end[kind]))
                    if all(a <= b for a, b in zip(end, inner)):
                        self.assertEqual(other, end)

    def test_no_crowds(self):
        rule = order_rule(House(2, 2, most=(3, MANY)), [1, 0])
        for crowd in ((4, 0), (0, 10 ** 30), (-1, 2), (2,), (1, 1, 1), ()):
            self.fails(BadCrowd, {"crowd": crowd}, rule.end, crowd)


class SureChairs(Case):
    def test_written_out(self):
        self.assertEqual(order_rule(House(3, 2), [1, 0, 2]).sure, (0, 2, 0))
        self.assertEqual(order_rule(House(3, 2, most=(1, 1, 1)), [1, 2, 0]).sure, (0, 1, 1))
        self.assertEqual(order_rule(House(3, 5, most=(1, 2, 1)), [1, 2, 0]).sure, (1, 2, 1))
        self.assertEqual(Rule(most_custom(House(2, 3))).sure, (2, 1))

    def test_of_every_crowd_the_sure_chairs_are_kept(self):
        for rule in RULES:
            bound = tuple(min(most, rule.house.chairs) for most in rule.house.most)
            self.assertEqual([rule.sure], list(plain_ends(rule.custom, bound)))
            for crowd in all_crowds(rule.house.most):
                for kind, count in enumerate(rule.end(crowd)):
                    self.assertGreaterEqual(count, min(crowd[kind], rule.sure[kind]))


class Caps(Case):
    def test_written_out(self):
        rule = order_rule(House(3, 2), [1, 0, 2])
        self.assertEqual(rule.cap(0, (0, 1, 9)), 1)
        self.assertEqual(rule.cap(0, (0, 0, 9)), 2)
        self.assertEqual(rule.cap(1, (MANY, 0, MANY)), 2)
        self.assertEqual(rule.cap(2, (1, 1, 0)), 0)
        self.assertEqual(order_rule(House(2, 3, most=(2, 9)), [0, 1]).cap(0, (0, 9)), 2)

    def test_what_is_left_is_the_lesser_of_the_count_and_the_cap(self):
        for rule in RULES:
            for crowd in all_crowds(rule.house.most):
                for kind in range(rule.house.kinds):
                    cap = rule.cap(kind, crowd)
                    self.assertEqual(rule.end(crowd)[kind], min(crowd[kind], cap))
                    full = list(crowd)
                    full[kind] = min(rule.house.most[kind], rule.house.chairs)
                    self.assertEqual(cap, list(plain_ends(rule.custom, tuple(full)))[0][kind])

    def test_the_count_of_the_kind_does_not_matter(self):
        for rule in RULES[::3]:
            for crowd in all_crowds(rule.house.most):
                for kind in range(rule.house.kinds):
                    none = crowd[:kind] + (0,) + crowd[kind + 1:]
                    self.assertEqual(rule.cap(kind, none), rule.cap(kind, crowd))

    def test_the_cap_never_rises(self):
        for rule in RULES[::3]:
            for crowd in all_crowds(rule.house.most):
                for kind in range(rule.house.kinds):
                    for inner in all_crowds(crowd):
                        self.assertGreaterEqual(rule.cap(kind, inner), rule.cap(kind, crowd))

    def test_wrong_arguments(self):
        rule = order_rule(House(2, 2, most=(3, MANY)), [1, 0])
        for kind in (2, -1, 10 ** 30):
            self.fails(BadKind, {"kind": kind}, rule.cap, kind, (1, 1))
            self.fails(BadKind, {"kind": kind}, rule.cap, kind, (9, 9))
        for crowd in ((4, 0), (0, 10 ** 30), (-1, 2), (2,), (1, 1, 1), ()):
            for kind in (0, 1):
                self.fails(BadCrowd, {"crowd": crowd}, rule.cap, kind, crowd)


class HallsInARow(Case):
    def test_example(self):
        first = order_rule(House(2, 1), [0, 1])
        second = order_rule(House(2, 1), [1, 0])
        self.assertEqual((first >> second).custom.answers, (1, 1, 0, 0))
        self.assertEqual((first >> second).end((5, 1)), (1, 1))
        self.assertEqual((first >> second).cap(0, (7, 0)), 2)

    def test_the_joined_rule_is_that_of_two_halls_for_every_row(self):
        houses = [(House(2, 1, most=(2, 3)), House(2, 2, most=(2, 3))),
                  (House(2, 2, most=(3, 3)), House(2, 1, most=(3, 3))),
                  (House(3, 1, most=(2, 1, 2)), House(3, 2, most=(2, 1, 2))),
                  (House.unlike(4, 2), House.unlike(4, 1)), (House.unlike(4, 2), House.unlike(4, 2))]
        for one_house, other_house in houses:
            ones = [Rule(custom) for custom in all_customs(one_house) if is_free(custom)]
            others = [Rule(custom) for custom in all_customs(other_house) if is_free(custom)]
            for one in ones[::2]:
                for other in others[::3]:
                    both = one >> other
                    chairs = one_house.chairs + other_house.chairs
                    self.assertEqual(both.house, House(one_house.kinds, chairs, most=one_house.most))
                    for row in all_rows(one_house.most)[::4]:
                        self.assertEqual(both.end(one_house.most), self.in_two_halls(one, other, row))
                    for crowd in all_crowds(one_house.most):
                        row = all_rows(crowd)[-1]
                        self.assertEqual(both.end(crowd), self.in_two_halls(one, other, row))

    def in_two_halls(self, one, other, row):
        """Who sits in either hall after the row, by the words of [45]."""
        kinds = one.house.kinds
        near, far = [], []
        for kind in row:
            near.append(kind)
            if len(near) > one.house.chairs:
                goes = one.custom(counted(near, kinds))
                near.remove(goes)
                far.append(goes)
                if len(far) > other.house.chairs:
                    far.remove(other.custom(counted(far, kinds)))
        return counted(near + far, kinds)

    def test_the_order_of_the_halls_counts(self):
        house = House(2, 1)
        first, second = order_rule(house, [0, 1]), order_rule(House(2, 2), [1, 0])
        self.assertEqual((first >> second).end((9, 9)), (1, 2))
        self.assertEqual((second >> first).end((9, 9)), (1, 2))
        self.assertEqual((first >> first).end((9, 9)), (2, 0))

    def test_the_joined_rule_without_meetings(self):
        both = order_rule(House.unlike(3, 1), [0, 1, 2]) >> order_rule(House.unlike(3, 2), [2, 1, 0])
        self.assertEqual(both.custom.answers, ())
        self.assertEqual(both.end((1, 0, 1)), (1, 0, 1))

    def test_the_greatest_house(self):
        first = order_rule(House(6, 3), [0, 1, 2, 3, 4, 5])
        second = order_rule(House(6, 2), [5, 4, 3, 2, 1, 0])
        both = first >> second
        self.assertEqual(both.house, House(6, 5))
        self.assertEqual(both.sure, (3, 0, 0, 0, 0, 2))
        self.assertEqual(both.end((1, MANY, 0, 0, 1, 0)), (1, 3, 0, 0, 1, 0))

    def test_nothing_changes(self):
        first, second = order_rule(House(2, 1), [0, 1]), order_rule(House(2, 1), [1, 0])
        self.assertEqual(first >> second, first >> second)
        self.assertEqual(first, order_rule(House(2, 1), [0, 1]))
        self.assertEqual(second, order_rule(House(2, 1), [1, 0]))

    def test_other_guests(self):
        first = order_rule(House(2, 3, most=(4, 5)), [0, 1])
        for house, order in [(House(2, 2), [0, 1]), (House(2, 2, most=(5, 4)), [0, 1]),
                             (House(3, 2, most=(4, 5, 1)), [0, 1, 2]), (House(2, 5), [0, 1])]:
            other = order_rule(house, order)
            self.fails(WrongHouse, {"what": "guests"}, lambda: first >> other)
            self.fails(WrongHouse, {"what": "guests"}, lambda: other >> first)

    def test_more_than_five_chairs_together(self):
        first = order_rule(House(2, 3), [0, 1])
        self.assertEqual((first >> order_rule(House(2, 2), [0, 1])).house.chairs, 5)
        self.fails(WrongHouse, {"what": "chairs"}, lambda: first >> first)
        self.fails(WrongHouse, {"what": "chairs"}, lambda: order_rule(House(2, 1), [0, 1]) >>
                   order_rule(House(2, 5), [0, 1]))


if __name__ == "__main__":
    unittest.main()
