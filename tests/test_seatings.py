"""Seatings: point [26] and the heading fewchairs/seatings.py."""

import itertools
import unittest

from fewchairs.crowds import lesser, minus
from fewchairs.errors import BadSeats, Clash, TooLarge
from fewchairs.houses import House
from fewchairs.seatings import rule_from, rule_table
from tests.helpers import GREATEST, MANY, RULES, Case, all_crowds, order_rule

TWO = House(2, 1)


def seats_of(rule):
    return dict(rule_table(rule))


def all_seatings(house):
    """All dicts from each small crowd to a crowd within it of the right size."""
    small = [crowd for crowd in all_crowds(house.most) if max(crowd) <= house.chairs]
    choices = [[end for end in all_crowds(crowd) if sum(end) == min(house.chairs, sum(crowd))] for crowd in small]
    return [dict(zip(small, ends)) for ends in itertools.product(*choices)]


def first_clash(house, seats):
    """The first clash by the words of [26], or None."""
    for crowd in sorted(seats):
        for kind in range(house.kinds):
            more = crowd[:kind] + (crowd[kind] + 1,) + crowd[kind + 1:]
            if more in seats:
                for other in range(house.kinds):
                    here = seats[crowd][other]
                    if here < crowd[other] and here < seats[more][other]:
                        return crowd, kind, other
    return None


class Tables(Case):
    def test_two_kinds(self):
        self.assertEqual(rule_table(order_rule(TWO, [1, 0])),
                         [((0, 0), (0, 0)), ((0, 1), (0, 1)), ((1, 0), (1, 0)), ((1, 1), (0, 1))])

    def test_all_small_crowds_with_their_ends(self):
        for rule in RULES:
            small = [crowd for crowd in all_crowds(rule.house.most) if max(crowd) <= rule.house.chairs]
            self.assertEqual(rule_table(rule), [(crowd, rule.end(crowd)) for crowd in small])

    def test_1024_small_crowds_are_not_too_many(self):
        table = rule_table(order_rule(House(5, 3), [4, 3, 2, 1, 0]))
        self.assertEqual(len(table), 1024)
        self.assertEqual(table[-1], ((3,) * 5, (0, 0, 0, 0, 3)))
        self.assertEqual(table[0], ((0,) * 5, (0,) * 5))

    def test_too_many_small_crowds(self):
        self.fails(TooLarge, {"size": 6 ** 6}, rule_table, GREATEST)
        self.fails(TooLarge, {"size": 1080}, rule_table, order_rule(House(4, 5, most=(4, MANY, 5, 6)), [3, 1, 2, 0]))

    def test_a_changed_table_changes_nothing(self):
        rule = order_rule(TWO, [1, 0])
        rule_table(rule).clear()
        self.assertEqual(len(rule_table(rule)), 4)


class RulesFromSeats(Case):
    def test_there_and_back(self):
        for rule in RULES:
            self.assertTrue(rule_from(rule.house, seats_of(rule)) == rule)

    def test_wide_houses(self):
        rule = order_rule(House(3, 2), [1, 2, 0]) >> order_rule(House(3, 1), [0, 1, 2])
        made = rule_from(House(3, 3), seats_of(rule))
        self.assertTrue(made == rule)
        self.assertEqual(made.house, House(3, 3))
        self.assertEqual(made.end((MANY, MANY, 1)), rule.end((MANY, MANY, 1)))

    def test_all_seatings_of_small_houses(self):
        for house in [House(1, 2, most=(3,)), House(2, 1, most=(2, 2)), House(2, 2, most=(3, 3)),
                      House(2, 2, most=(1, 3)), House(3, 1, most=(1, 1, 2)), House.unlike(3, 2)]:
            rules = [rule for rule in RULES if rule.house == house]
            found = []
            for seats in all_seatings(house):
                clash = first_clash(house, seats)
                if clash is None:
                    made = rule_from(house, seats)
                    self.assertEqual(seats_of(made), seats)
                    found.append(made)
                else:
                    crowd, kind, other = clash
                    self.fails(Clash, {"crowd": crowd, "kind": kind, "other": other}, rule_from, house, seats)
            self.assertTrue(all(any(rule == other for other in found) for rule in rules))
            self.assertEqual(len({made.custom.answers for made in found}), len(found))

    def test_from_a_meeting_goes_who_has_one_more_than_the_end(self):
        for rule in RULES[::5]:
            made = rule_from(rule.house, seats_of(rule))
            for meeting, goes in made.custom.table().items():
                end = rule.end(lesser(meeting, (rule.house.chairs,) * rule.house.kinds))
                self.assertEqual(minus(meeting, end)[goes], 1)

    def test_unlike_guests_and_one_kind(self):
        self.assertEqual(rule_from(House(1, 2), {(0,): (0,), (1,): (1,), (2,): (2,)}).custom.answers, (0,))
        house = House.unlike(2, 2)
        seats = {crowd: crowd for crowd in all_crowds((1, 1))}
        self.assertEqual(rule_from(house, seats).custom.answers, ())

    def test_1024_small_crowds(self):
        rule = order_rule(House(5, 3), [4, 3, 2, 1, 0])
        self.assertTrue(rule_from(rule.house, seats_of(rule)) == rule)

    def test_a_custom_that_is_made_of_changed_seats_stays(self):
        seats = seats_of(order_rule(TWO, [1, 0]))
        before = dict(seats)
        rule = rule_from(TWO, seats)
        self.assertEqual(list(seats.items()), list(before.items()))
        seats[(1, 1)] = (1, 0)
        self.assertEqual(rule.end((1, 1)), (0, 1))


class WrongSeats(Case):
    def setUp(self):
        self.seats = {(0, 0): (0, 0), (0, 1): (0, 1), (1, 0): (1, 0), (1, 1): (0, 1)}

    def wrong(self, error, fields, house=TWO):
        before = list(self.seats.items())
        self.fails(error, fields, rule_from, house, self.seats)
        self.assertEqual(list(self.seats.items()), before)

    def test_too_many_small_crowds(self):
        self.wrong(TooLarge, {"size": 6 ** 6}, House(6, 5))
        self.fails(TooLarge, {"size": 1080}, rule_from, House(4, 5, most=(4, MANY, 5, 6)), {})
        self.fails(BadSeats, {"crowd": (0,) * 5}, rule_from, House(5, 3), {})

    def test_a_small_crowd_without_an_entry(self):
        del self.seats[(1, 0)]
        self.wrong(BadSeats, {"crowd": (1, 0)})
        del self.seats[(0, 1)]
        self.wrong(BadSeats, {"crowd": (0, 1)})
        self.seats.clear()
        self.wrong(BadSeats, {"crowd": (0, 0)})

    def test_a_wrong_entry(self):
        for end in [(0, 0), (1, 1), (2, 0), (2, -1), (-1, 2), (0,), (1,), (), (0, 1, 0), (1, 0, 0)]:
            self.seats[(1, 1)] = end
            self.wrong(BadSeats, {"crowd": (1, 1)})

    def test_an_entry_that_is_not_within(self):
        self.seats[(1, 0)] = (0, 1)
        self.wrong(BadSeats, {"crowd": (1, 0)})
        self.seats[(0, 1)] = (1, 0)
        self.wrong(BadSeats, {"crowd": (0, 1)})
        self.seats[(0, 0)] = (1, -1)
        self.wrong(BadSeats, {"crowd": (0, 0)})

    def test_a_key_that_is_no_small_crowd(self):
        for key in [(2, 0), (0, 2), (-1, 0), (0,), (0, 0, 0), ()]:
            self.seats[key] = (1, 0)
            self.wrong(BadSeats, {"crowd": key})
            del self.seats[key]

    def test_the_first_such_key_in_the_order_of_the_dict(self):
        self.seats = {(7, 0): (1, 0), (0, 0): (0, 0), (5, 0): (1, 0), **self.seats}
        self.wrong(BadSeats, {"crowd": (7, 0)})
        del self.seats[(7, 0)]
        self.wrong(BadSeats, {"crowd": (5, 0)})

    def test_a_clash(self):
        house = House(3, 1, most=(1, 1, 1))
        self.seats = {crowd: crowd for crowd in all_crowds((1, 1, 1)) if sum(crowd) < 2}
        self.seats.update({(0, 1, 1): (0, 0, 1), (1, 0, 1): (1, 0, 0), (1, 1, 0): (0, 1, 0), (1, 1, 1): (0, 1, 0)})
        self.wrong(Clash, {"crowd": (0, 1, 1), "kind": 0, "other": 1}, house)
        self.seats[(1, 1, 1)] = (1, 0, 0)
        self.wrong(Clash, {"crowd": (1, 1, 0), "kind": 2, "other": 0}, house)
        self.seats[(1, 1, 1)] = (0, 0, 1)
        self.wrong(Clash, {"crowd": (1, 0, 1), "kind": 1, "other": 2}, house)

    def test_the_order_of_the_errors(self):
        house = House(3, 1, most=(1, 1, 1))
        self.seats = {(9, 9): ()}
        self.seats.update({crowd: crowd for crowd in all_crowds((1, 1, 1)) if sum(crowd) < 2})
        self.seats.update({(0, 1, 1): (0, 0, 1), (1, 0, 1): (1, 0, 0), (1, 1, 0): (0, 1, 0)})
        self.wrong(BadSeats, {"crowd": (1, 1, 1)}, house)
        self.seats[(1, 1, 1)] = (1, 1, -1)
        self.wrong(BadSeats, {"crowd": (1, 1, 1)}, house)
        self.seats[(1, 1, 1)] = (0, 1, 0)
        self.wrong(BadSeats, {"crowd": (9, 9)}, house)
        del self.seats[(9, 9)]
        self.wrong(Clash, {"crowd": (0, 1, 1), "kind": 0, "other": 1}, house)


if __name__ == "__main__":
    unittest.main()
