"""Seatings of a net: points [52] to [55] and the heading fewchairs/wishes.py."""

import itertools
import unittest

from fewchairs.errors import BadCrowd
from fewchairs.houses import House
from fewchairs.nets import Net
from fewchairs.wishes import first_wish, fits, is_stable, only_one
from tests.helpers import GREATEST, MANY, Case, all_crowds, crowds_between, order_rule, small_nets

ONE = order_rule(House(2, 1), [1, 0])
TWO = order_rule(House(2, 1), [0, 1])
NET = Net([ONE, TWO], [[0, 1], [1, 0]])


def summed(kinds, crowds):
    return tuple(sum(crowd[kind] for crowd in crowds) for kind in range(kinds))


def all_seatings(net, crowd):
    """All pairs of crowds held and a crowd at home, of all guests of the crowd, whether they fit or not."""
    for sitting in itertools.product(all_crowds(crowd), repeat=len(net.rules)):
        rest = tuple(count - away for count, away in zip(crowd, summed(net.kinds, sitting)))
        if min(rest, default=0) >= 0:
            yield sitting, rest


def plainly_fits(net, crowd, sitting, home):
    if len(sitting) != len(net.rules) or summed(net.kinds, [home, *sitting]) != crowd:
        return False
    for hall, guests in enumerate(sitting):
        if sum(guests) > net.rules[hall].house.chairs:
            return False
        for kind in range(net.kinds):
            if guests[kind] and hall not in net.routes[kind]:
                return False
    return True


def wishes(net, sitting, home):
    """All pairs (kind, hall) such that the kind wishes for the hall, by the words of [52]."""
    found = []
    for kind, route in enumerate(net.routes):
        for at, hall in enumerate(route):
            somebody = home[kind] or any([sitting[later][kind] for later in route[at + 1:]])
            rule = net.rules[hall]
            meeting = tuple(count + (other == kind) for other, count in enumerate(sitting[hall]))
            if somebody and (sum(sitting[hall]) < rule.house.chairs or rule.custom(meeting) != kind):
                found.append((kind, hall))
    return found


def stable_seatings(net, crowd):
    return [(sitting, home) for sitting, home in all_seatings(net, crowd)
            if plainly_fits(net, crowd, sitting, home) and not wishes(net, sitting, home)]


def beginnings(net, seating):
    """How many guests of each kind are in the halls of each beginning of its route."""
    return [sum(seating[0][hall][kind] for hall in net.routes[kind][:at + 1])
            for kind in range(net.kinds) for at in range(len(net.routes[kind]))]


class Fitting(Case):
    def test_all_seatings_of_few_guests(self):
        for net in small_nets()[::3]:
            for crowd in all_crowds(net.rules[0].house.most)[::2]:
                for sitting, home in all_seatings(net, crowd):
                    self.assertIs(fits(net, crowd, sitting, home), plainly_fits(net, crowd, sitting, home))

    def test_some_seatings(self):
        for sitting, home, word in [(((1, 0), (0, 1)), (0, 0), True), (((0, 0), (0, 0)), (1, 1), True),
                                    (((1, 0), (0, 1)), (0, 1), False), (((1, 0), (0, 0)), (0, 0), False),
                                    (((1, 1), (0, 0)), (0, 0), False), (((2, 0), (0, 1)), (0, 0), False)]:
            self.assertIs(fits(NET, (1, 1), sitting, home), word)

    def test_other_numbers_of_halls(self):
        for sitting in [(), ((1, 0),), ((1, 0), (0, 1), (0, 0)), ((0, 0),) * 4]:
            self.assertIs(fits(NET, (1, 1), sitting, (0, 0)), False)
            self.assertIs(is_stable(NET, (1, 1), sitting, (0, 0)), False)
        self.assertIs(fits(NET, (1, 1), ((1, 0),), (0, 1)), False)
        self.assertIs(fits(NET, (1, 1), ((1, 0), (0, 1), (0, 0)), (0, 0)), False)

    def test_a_hall_that_is_not_on_the_route(self):
        net = Net([ONE, TWO], [[0], [1, 0]])
        self.assertIs(fits(net, (1, 1), ((0, 1), (1, 0)), (0, 0)), False)
        self.assertIs(fits(net, (1, 1), ((0, 1), (0, 0)), (1, 0)), True)

    def test_many_guests(self):
        self.assertIs(fits(NET, (MANY, 2), ((0, 1), (1, 0)), (MANY - 1, 1)), True)
        self.assertIs(fits(NET, (MANY, 2), ((0, 1), (1, 0)), (MANY, 1)), False)

    def test_wrong_crowds_come_first(self):
        net = Net([order_rule(House(2, 1, most=(2, 3)), [0, 1])], [[0], [0]])
        for crowd in [(3, 0), (0, 4), (-1, 0), (1,), (1, 1, 1), ()]:
            for sitting in [((0, 0),), (), ((0, 0), (0, 0))]:
                self.fails(BadCrowd, {"crowd": crowd}, fits, net, crowd, sitting, (0, 0))
                self.fails(BadCrowd, {"crowd": crowd}, is_stable, net, crowd, sitting, (0, 0))
            self.fails(BadCrowd, {"crowd": crowd}, only_one, net, crowd)


class Wishing(Case):
    def test_all_wishes_of_few_guests(self):
        none, some = 0, 0
        for net in small_nets()[::3]:
            for crowd in all_crowds(net.rules[0].house.most)[::2]:
                for sitting, home in all_seatings(net, crowd):
                    if plainly_fits(net, crowd, sitting, home):
                        found = wishes(net, sitting, home)
                        self.assertEqual(first_wish(net, sitting, home), found[0] if found else None)
                        self.assertIs(is_stable(net, crowd, sitting, home), not found)
                        none, some = none + (not found), some + bool(found)
        self.assertGreater(min(none, some), 100)

    def test_the_first_wish(self):
        # Halls 2 and 0 are free for kind 1, and its route begins with hall 2.
        net = Net([ONE, TWO, ONE], [[], [2, 0, 1]])
        self.assertEqual(first_wish(net, ((0, 0), (0, 1), (0, 0)), (0, 0)), (1, 2))
        self.assertEqual(first_wish(net, ((0, 0), (0, 1), (0, 1)), (0, 0)), (1, 0))
        self.assertIsNone(first_wish(net, ((0, 1), (0, 0), (0, 1)), (0, 0)))
        self.assertEqual(first_wish(net, ((0, 1), (0, 0), (0, 1)), (3, 1)), (1, 1))

    def test_lower_kinds_come_first(self):
        self.assertEqual(first_wish(NET, ((0, 0), (0, 0)), (1, 1)), (0, 0))
        self.assertEqual(first_wish(NET, ((0, 0), (0, 0)), (0, 1)), (1, 1))
        self.assertIsNone(first_wish(NET, ((0, 0), (0, 0)), (0, 0)))

    def test_a_hall_that_sends_somebody_else_away(self):
        net = Net([TWO], [[0], [0]])
        self.assertEqual(first_wish(net, ((0, 1),), (1, 0)), (0, 0))
        self.assertIsNone(first_wish(net, ((1, 0),), (1, 1)))

    def test_seatings_that_do_not_fit_are_not_stable(self):
        self.assertIs(is_stable(NET, (1, 1), ((1, 0), (0, 1)), (0, 1)), False)
        self.assertIs(is_stable(NET, (2, 1), ((1, 0), (0, 1)), (0, 0)), False)

    def test_many_guests(self):
        crowd = (MANY, MANY)
        self.assertIs(is_stable(NET, crowd, *NET.settle(crowd)), True)
        self.assertIs(is_stable(NET, crowd, ((1, 0), (0, 1)), (MANY - 1, MANY - 1)), False)
        self.assertEqual(first_wish(NET, ((1, 0), (0, 1)), (MANY - 1, MANY - 1)), (0, 1))


class Stable(Case):
    def test_all_stable_seatings_of_few_guests(self):
        several = 0
        for net in small_nets():
            for crowd in all_crowds(net.rules[0].house.most):
                found = stable_seatings(net, crowd)
                settled, late = net.settle(crowd), net.settle_late(crowd)
                self.assertIn(settled, found)
                self.assertIn(late, found)
                for seating in found:
                    counts = zip(beginnings(net, late), beginnings(net, seating), beginnings(net, settled))
                    self.assertTrue(all([least <= count <= most for least, count, most in counts]))
                    self.assertEqual([sum(guests) for guests in seating[0]], [sum(guests) for guests in settled[0]])
                    self.assertEqual(seating[1], settled[1])
                self.assertIs(only_one(net, crowd), len(found) == 1)
                several += len(found) > 1
        self.assertGreater(several, 10)

    def test_settled_seatings_are_stable(self):
        net = Net([GREATEST, order_rule(House(6, 4), [5, 4, 3, 2, 1, 0])], [[0, 1], [1, 0], [1, 0], [0, 1], [1], [0]])
        for crowd in [(MANY,) * 6, (1, 2, 3, 4, 5, 6), (0, 0, 1, 0, 2, MANY)]:
            self.assertIs(is_stable(net, crowd, *net.settle(crowd)), True)
            self.assertIs(is_stable(net, crowd, *net.settle_late(crowd)), True)

    def test_only_one(self):
        self.assertIs(only_one(NET, (1, 1)), False)
        self.assertIs(only_one(NET, (1, 0)), True)
        self.assertIs(only_one(NET, (0, 0)), True)
        self.assertIs(only_one(NET, (MANY, MANY)), True)
        self.assertIs(only_one(Net([ONE], [[0], []]), (MANY, 0)), True)

    def test_arguments_stay(self):
        crowds = crowds_between((0, 0), (2, 2))
        for crowd in crowds:
            seating = NET.settle(crowd)
            is_stable(NET, crowd, *seating)
            first_wish(NET, *seating)
            self.assertEqual(seating, NET.settle(crowd))
        self.assertEqual(NET.routes, ((0, 1), (1, 0)))


if __name__ == "__main__":
    unittest.main()
