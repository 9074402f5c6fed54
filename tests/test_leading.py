"""The leading chair: points [48], [49] and the heading fewchairs/leading.py."""

import itertools
import unittest
from unittest import mock

from fewchairs import leading
from fewchairs.cardnumbers import cards_at, count_cards
from fewchairs.cardtables import custom_of_cards
from fewchairs.crowds import kinds_in
from fewchairs.customnumbers import custom_at
from fewchairs.customs import Custom
from fewchairs.errors import WrongHouse
from fewchairs.hallrows import held
from fewchairs.houses import House
from fewchairs.leading import split_leader, turns_of
from fewchairs.look import is_free
from fewchairs.makers import most_custom, order_custom
from fewchairs.orders import in_turn
from fewchairs.rules import Rule
from tests.helpers import Case, all_cards, all_customs, order_rule


def of_cards(people, number):
    return Rule(custom_of_cards(cards_at(people, number)))


def free_rules(people, chairs):
    return [Rule(custom) for custom in all_customs(House.unlike(people, chairs)) if is_free(custom)]


FEW = [rule for people, chairs in [(1, 2), (2, 2), (2, 3), (3, 2), (3, 4), (4, 2), (4, 3), (5, 3), (5, 4), (5, 5), (6, 5)]
       for rule in free_rules(people, chairs)]
FIVE = [Rule(custom_of_cards(cards)) for cards in all_cards(5)[::5]]
# Splitting, stuck at once, stuck late, and at once beside one person and late beside the other.
SIX = [of_cards(6, number) for number in (0, 7, 42, 49, 77, 168, 161, 609, 329, 777, 20001, 23039)]
SIX_BY_THREE = [Rule(custom_at(House.unlike(6, 3), number))
                for number in (5609062, 1006370773, 711997632, 94725802)]
RULES = FEW + FIVE + SIX + SIX_BY_THREE


def who_goes(custom):
    """A dict from each meeting, as a set of people, to who goes."""
    return {frozenset(kinds_in(meeting)): goes for meeting, goes in custom.table().items()}


def leads(goes, p, x, people):
    """Whether x leads the people beside p, by the words of [48]."""
    meetings = [meeting for meeting in goes if x in meeting and meeting <= set(people)]
    return all(goes[meeting] == goes[(meeting - {x}) | {p}] for meeting in meetings)


def peeled(goes, p, people, take=min):
    """Those who are taken away in turn, and those who are stuck."""
    taken, rest = [], set(people) - {p}
    while True:
        found = [x for x in rest if leads(goes, p, x, rest)]
        if not found:
            return taken, sorted(rest)
        taken.append(take(found))
        rest.remove(taken[-1])


def never_gone(custom):
    return [p for p in range(custom.house.kinds) if all(goes != p for goes in who_goes(custom).values())]


def plain_rest(custom, p):
    """The rest for p, by the words of [49]."""
    goes = who_goes(custom)
    house = House.unlike(custom.house.kinds, custom.house.chairs - 1)
    return Custom(house, [p if meeting[p] else goes[frozenset(kinds_in(meeting)) | {p}]
                          for meeting in house.meetings()])


def plain_split(custom):
    """What split_leader has to return; the rest as a custom."""
    stuck = []
    for p in never_gone(custom):
        taken, rest = peeled(who_goes(custom), p, range(custom.house.kinds))
        if not rest:
            return ("splits", [p] + taken, plain_rest(custom, p))
        stuck.append((p, rest))
    return ("whole", stuck)


def plain_reasons(custom):
    """None if orders in turn give the custom, otherwise the reasons."""
    if custom.house.chairs == 1:
        return None
    reasons = []
    for p in never_gone(custom):
        stuck = peeled(who_goes(custom), p, range(custom.house.kinds))[1]
        further = None if stuck else plain_reasons(plain_rest(custom, p))
        if not stuck and further is None:
            return None
        reasons.append((p, "stuck", stuck) if stuck else (p, "rest", further))
    return reasons


def in_turn_answers(people, chairs):
    """The answers of all customs of orders in turn."""
    orders = [list(order) for order in itertools.permutations(range(people))]
    house = House.unlike(people, chairs)
    return {in_turn(house, list(several)).answers for several in itertools.product(orders, repeat=chairs)}


class Splitting(Case):
    def test_the_answer(self):
        words = {"splits": 0, "whole": 0}
        for rule in RULES:
            if rule.house.chairs > 1:
                answer = split_leader(rule)
                self.assertEqual(answer, plain_split(rule.custom))
                self.assertIsInstance(answer, tuple)
                self.assertIsInstance(answer[1], list)
                words[answer[0]] += 1
        self.assertGreater(min(words.values()), 8)

    def test_an_order(self):
        rule = order_rule(House.unlike(4, 2), [2, 0, 3, 1])
        word, order, rest = split_leader(rule)
        self.assertEqual((word, order), ("splits", [0, 2, 1, 3]))
        self.assertTrue(rest == order_custom(House.unlike(4, 1), [2, 3, 1, 0]))

    def test_both_halls_have_the_custom(self):
        for rule in RULES:
            if rule.house.chairs > 1 and split_leader(rule)[0] == "splits":
                order, rest = split_leader(rule)[1:]
                self.assertIsInstance(rest, Custom)
                self.assertTrue(rest.house == House.unlike(rule.house.kinds, rule.house.chairs - 1))
                self.assertTrue(is_free(rest))
                first = order_rule(House.unlike(rule.house.kinds, 1), order)
                self.assertTrue((first >> Rule(rest)) == rule)
                for crowd in itertools.product((0, 1), repeat=rule.house.kinds):
                    ends = held(crowd, first, Rule(rest))
                    self.assertEqual(tuple(a + b for a, b in zip(*ends[:2])), rule.end(crowd))

    def test_exactly_those_that_have_such_halls(self):
        for people, chairs in [(3, 2), (4, 2), (4, 3)]:
            orders = [order_rule(House.unlike(people, 1), list(order))
                      for order in itertools.permutations(range(people))]
            halls = {(one >> other).custom.answers for one in orders for other in free_rules(people, chairs - 1)}
            for rule in free_rules(people, chairs):
                self.assertEqual(split_leader(rule)[0] == "splits", rule.custom.answers in halls)

    def test_whoever_is_taken_away(self):
        for rule in RULES[::3] + SIX + SIX_BY_THREE:
            for p in never_gone(rule.custom):
                goes, people = who_goes(rule.custom), range(rule.house.kinds)
                ends = [peeled(goes, p, people, take)[1] for take in (min, max, lambda found: found[len(found) // 2])]
                self.assertEqual(ends, ends[:1] * 3)

    def test_stuck_at_once_and_stuck_late(self):
        at_once, late = split_leader(SIX[2]), split_leader(SIX[4])
        self.assertEqual([len(stuck) for _, stuck in at_once[1]], [5, 5])
        self.assertEqual([len(stuck) for _, stuck in late[1]], [4, 4])
        self.assertEqual([[len(stuck) for _, stuck in split_leader(rule)[1]] for rule in (SIX[6], SIX[8])],
                         [[4, 5], [5, 4]])
        self.assertEqual([p for p, _ in at_once[1]], kinds_in(SIX[2].sure))

    def test_no_meetings(self):
        for people, chairs in [(1, 2), (1, 5), (3, 3), (4, 5)]:
            rule = order_rule(House.unlike(people, chairs), list(range(people))[::-1])
            word, order, rest = split_leader(rule)
            self.assertEqual((word, order), ("splits", list(range(people))))
            self.assertTrue(rest.house == House.unlike(people, chairs - 1))

    def test_those_who_never_go_are_the_sure_chairs(self):
        for rule in RULES:
            self.assertEqual(never_gone(rule.custom), kinds_in(rule.sure))
            self.assertGreater(len(never_gone(rule.custom)), 0)

    def test_a_changed_result_changes_nothing(self):
        for rule in (SIX[0], SIX[2]):
            answer = split_leader(rule)
            answer[1].clear()
            self.assertEqual(split_leader(rule), plain_split(rule.custom))
        split_leader(SIX[2])[1][0][1].clear()
        self.assertEqual(split_leader(SIX[2]), plain_split(SIX[2].custom))

    def test_wrong_houses(self):
        for most in [(), (1, 2), (2, 1), (9, 9)]:
            for chairs in (1, 2, 5):
                rule = order_rule(House(2, chairs, most=most), [1, 0])
                self.fails(WrongHouse, {"what": "most"}, split_leader, rule)
        for people in (1, 2, 6):
            rule = order_rule(House.unlike(people, 1), list(range(people)))
            self.fails(WrongHouse, {"what": "chairs"}, split_leader, rule)


class Turns(Case):
    def is_right(self, rule):
        """Checks the answer, and returns its first word."""
        answer = turns_of(rule)
        if answer[0] == "turns":
            self.assertEqual(len(answer), 2)
            self.assertEqual(len(answer[1]), rule.house.chairs)
            self.assertTrue(in_turn(rule.house, answer[1]) == rule.custom)
            self.assertIsNone(plain_reasons(rule.custom))
        else:
            self.assertEqual(answer, ("none", plain_reasons(rule.custom)))
        return answer[0]

    def test_the_answer(self):
        words = [self.is_right(rule) for rule in RULES]
        self.assertGreater(words.count("turns"), 100)
        self.assertGreater(words.count("none"), 8)

    def test_one_chair(self):
        for people in (1, 2, 3, 4):
            for rule in free_rules(people, 1):
                word, orders = turns_of(rule)
                self.assertEqual((word, len(orders)), ("turns", 1))
                self.assertTrue(order_custom(rule.house, orders[0]) == rule.custom)
        self.assertEqual(turns_of(order_rule(House.unlike(6, 1), [3, 5, 0, 1, 4, 2])), ("turns", [[3, 5, 0, 1, 4, 2]]))

    def test_exactly_the_customs_of_orders_in_turn(self):
        for people, chairs in [(2, 2), (3, 2), (4, 2), (3, 3), (4, 3)]:
            known = in_turn_answers(people, chairs)
            for rule in free_rules(people, chairs):
                self.assertEqual(self.is_right(rule) == "turns", rule.custom.answers in known)

    def test_customs_of_orders_in_turn_of_6_people(self):
        orders = [list(order) for order in itertools.permutations(range(6))]
        for chairs in (2, 3, 4, 5):
            for at in range(0, 700, 97):
                several = [orders[(at + 131 * chair) % 720] for chair in range(chairs)]
                rule = Rule(in_turn(House.unlike(6, chairs), several))
                self.assertEqual(self.is_right(rule), "turns")
                self.assertEqual(split_leader(rule)[0], "splits")

    def test_no_custom_that_is_whole_is_in_turn(self):
        for rule in SIX + SIX_BY_THREE:
            self.assertEqual(turns_of(rule)[0] == "none", split_leader(rule)[0] == "whole")

    def test_reasons(self):
        stuck = split_leader(SIX[2])[1]
        self.assertEqual(turns_of(SIX[2]), ("none", [(p, "stuck", people) for p, people in stuck]))

    def test_reasons_for_the_rest(self):
        # No house of 6 people has a rest that is not in turn, so one is put in place of it.
        rule, whole = order_rule(House.unlike(6, 3), [0, 1, 2, 3, 4, 5]), SIX[2].custom
        with mock.patch.object(leading, "_rest", lambda custom, head: whole):
            answer = turns_of(rule)
        reasons = turns_of(SIX[2])[1]
        self.assertEqual(answer, ("none", [(p, "rest", reasons) for p in (0, 1, 2)]))

    def test_every_rest_of_few_people(self):
        for number in range(0, count_cards(6), 999):
            for p in never_gone(of_cards(6, number).custom):
                self.assertTrue(is_free(plain_rest(of_cards(6, number).custom, p)))

    def test_a_changed_result_changes_nothing(self):
        for rule in (SIX[0], SIX[2], SIX_BY_THREE[0]):
            answer = turns_of(rule)
            answer[1].clear()
            self.is_right(rule)
            self.assertEqual(turns_of(rule), turns_of(rule))

    def test_wrong_houses(self):
        for chairs in (1, 2, 5):
            for most in [(), (1, 2, 1), (7, 7, 7)]:
                rule = Rule(order_custom(House(3, chairs, most=most), [1, 0, 2]))
                self.fails(WrongHouse, {"what": "most"}, turns_of, rule)
        self.assertTrue(in_turn(House.unlike(6, 5), turns_of(Rule(most_custom(House.unlike(6, 5))))[1])
                        == most_custom(House.unlike(6, 5)))


if __name__ == "__main__":
    unittest.main()
