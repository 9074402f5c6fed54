"""Walks through a net: points [51], [53] and the heading fewchairs/walks.py."""

import unittest

from fewchairs.errors import BadKind, NotUnderWay, TooManyOf
from fewchairs.houses import House
from fewchairs.nets import Net
from fewchairs.walks import Walk
from tests.helpers import MANY, Case, all_crowds, all_rows, order_rule, small_nets

ONE = order_rule(House(2, 1), [1, 0])
TWO = order_rule(House(2, 1), [0, 1])
NET = Net([ONE, TWO], [[0, 1], [1, 0]])


def state(walk):
    return (walk.held, walk.home, walk.came, walk.ways)


def replayed(net, events):
    """The walk after these events: (kind,) for one who comes, (kind, hall) for a step."""
    walk = Walk(net)
    for event in events:
        if len(event) == 1:
            walk.come(event[0])
        else:
            walk.step(*event)
    return walk


def rest_states(net, crowd):
    """All pairs of a seating at rest and the number of the steps, over all orders of all events."""
    found, seen, waiting = set(), set(), [()]
    while waiting:
        events = waiting.pop()
        walk = replayed(net, events)
        further = [(kind,) for kind in range(net.kinds) if walk.came[kind] < crowd[kind]] + walk.ways
        if not further:
            found.add((walk.held, walk.home, sum(len(event) == 2 for event in events)))
        # How many of a kind are under way is known by who came and where the others are.
        key = (walk.held, walk.home, walk.came, tuple(walk.ways), tuple(sorted(events)))
        if key not in seen:
            seen.add(key)
            waiting += [events + (event,) for event in further]
    return found


class Walking(Case):
    def test_a_new_walk(self):
        walk = Walk(NET)
        self.assertIs(walk.net, NET)
        self.assertEqual(state(walk), (((0, 0), (0, 0)), (0, 0), (0, 0), []))
        self.assertEqual(walk.finish(), 0)

    def test_some_steps(self):
        walk = Walk(NET)
        self.assertEqual(walk.come(0), 0)
        self.assertEqual(state(walk), (((0, 0), (0, 0)), (0, 0), (1, 0), [(0, 0)]))
        self.assertEqual(walk.come(1), 1)
        self.assertEqual(walk.come(0), 0)
        self.assertEqual(walk.ways, [(0, 0), (1, 1)])
        self.assertIsNone(walk.step(0, 0))
        self.assertEqual(state(walk), (((1, 0), (0, 0)), (0, 0), (2, 1), [(0, 0), (1, 1)]))
        self.assertIsNone(walk.step(1, 1))
        self.assertEqual(walk.step(0, 0), 0)
        self.assertEqual(state(walk), (((1, 0), (0, 1)), (0, 0), (2, 1), [(0, 1)]))
        self.assertEqual(walk.step(0, 1), 1)
        self.assertEqual(state(walk), (((1, 0), (1, 0)), (0, 0), (2, 1), [(1, 0)]))
        self.assertEqual(walk.step(1, 0), 0)
        self.assertEqual(walk.step(0, 1), 0)
        self.assertEqual(state(walk), (((0, 1), (1, 0)), (1, 0), (2, 1), []))

    def test_no_route(self):
        walk = Walk(Net([ONE], [[], [0]]))
        self.assertIsNone(walk.come(0))
        self.assertEqual(state(walk), (((0, 0),), (1, 0), (1, 0), []))
        self.assertEqual(walk.come(1), 0)
        self.assertEqual(walk.finish(), 1)

    def test_two_guests_of_a_kind_under_way_to_one_hall(self):
        walk = Walk(Net([TWO, ONE], [[1, 0], [0]]))
        for _ in range(3):
            self.assertEqual(walk.come(0), 1)
        self.assertEqual(walk.ways, [(0, 1)])
        self.assertIsNone(walk.step(0, 1))
        self.assertEqual(walk.ways, [(0, 1)])
        self.assertEqual(walk.step(0, 1), 0)
        self.assertEqual(walk.ways, [(0, 0), (0, 1)])
        self.assertEqual(walk.step(0, 1), 0)
        self.assertEqual(walk.ways, [(0, 0)])
        self.assertIsNone(walk.step(0, 0))
        self.assertEqual(walk.step(0, 0), 0)
        self.assertEqual(state(walk), (((1, 0), (1, 0)), (1, 0), (3, 0), []))

    def test_the_ways_are_ascending(self):
        net = Net([order_rule(House(3, 1), [0, 1, 2])] * 4, [[3], [1, 2], [0]])
        walk = Walk(net)
        for kind in (2, 0, 1, 1, 2):
            walk.come(kind)
        self.assertEqual(walk.ways, [(0, 3), (1, 1), (2, 0)])
        walk.step(1, 1)
        walk.step(1, 1)
        self.assertEqual(walk.ways, [(0, 3), (1, 2), (2, 0)])
        walk.come(1)
        self.assertEqual(walk.ways, [(0, 3), (1, 1), (1, 2), (2, 0)])

    def test_finish_takes_the_first_way(self):
        for net in small_nets()[::4]:
            for row in all_rows(net.rules[0].house.most)[::5]:
                one, other, number = Walk(net), Walk(net), 0
                for kind in row:
                    one.come(kind)
                    other.come(kind)
                while other.ways:
                    other.step(*other.ways[0])
                    number += 1
                self.assertEqual(one.finish(), number)
                self.assertEqual(state(one), state(other))
                self.assertEqual(one.finish(), 0)

    def test_a_walk_may_go_on_after_a_rest(self):
        walk = Walk(NET)
        for kind in (0, 1, 0, 0, 1):
            walk.come(kind)
            walk.finish()
            self.assertEqual((walk.held, walk.home), NET.settle(walk.came))

    def test_nobody_is_lost(self):
        for net in small_nets()[::3]:
            walk = Walk(net)
            for kind in all_rows(net.rules[0].house.most)[0]:
                walk.come(kind)
                while walk.ways:
                    walk.step(*walk.ways[-1])
                everybody = [walk.home, *walk.held]
                self.assertEqual(walk.came, tuple(sum(counts) for counts in zip(*everybody)))


class Resting(Case):
    def test_all_walks_of_few_guests(self):
        for net in small_nets()[::5]:
            for crowd in all_crowds(net.rules[0].house.most):
                if sum(crowd) <= 3:
                    steps = sum(map(sum, net.visits(crowd)))
                    self.assertEqual(rest_states(net, crowd), {(*net.settle(crowd), steps)})

    def test_all_come_before_the_first_step(self):
        for net in small_nets():
            for crowd in all_crowds(net.rules[0].house.most):
                walk = Walk(net)
                for kind in all_rows(crowd)[0]:
                    walk.come(kind)
                self.assertEqual(walk.finish(), sum(map(sum, net.visits(crowd))))
                self.assertEqual((walk.held, walk.home), net.settle(crowd))
                self.assertEqual((walk.came, walk.ways), (crowd, []))

    def test_a_hundred_guests(self):
        net = Net([order_rule(House(3, 2), [0, 1, 2]), order_rule(House(3, 3), [2, 1, 0]),
                   order_rule(House(3, 1), [1, 2, 0])], [[0, 1, 2], [1, 2, 0], [2, 0, 1]])
        walk = Walk(net)
        for at in range(300):
            walk.come(at * at % 3)
            if at % 7 == 0 and walk.ways:
                walk.step(*walk.ways[-1])
        walk.finish()
        self.assertEqual((walk.held, walk.home), net.settle(walk.came))


class Wrong(Case):
    def test_wrong_guests(self):
        walk = Walk(Net([order_rule(House(2, 1, most=(2, 1)), [0, 1])], [[0], []]))
        for kind in (-1, 2, MANY, -MANY):
            self.fails(BadKind, {"kind": kind}, walk.come, kind)
        for kind in (0, 1, 0):
            walk.come(kind)
        before = state(walk)
        self.fails(TooManyOf, {"kind": 0}, walk.come, 0)
        self.fails(TooManyOf, {"kind": 1}, walk.come, 1)
        self.fails(BadKind, {"kind": 2}, walk.come, 2)
        self.assertEqual(state(walk), before)

    def test_nobody_under_way(self):
        walk = Walk(NET)
        self.fails(NotUnderWay, {"kind": 0, "hall": 0}, walk.step, 0, 0)
        walk.come(0)
        before = state(walk)
        for kind, hall in [(0, 1), (1, 0), (1, 1), (0, -2), (-2, 0), (0, 2), (2, 0), (-1, -1), (MANY, MANY), (5, 0)]:
            self.fails(NotUnderWay, {"kind": kind, "hall": hall}, walk.step, kind, hall)
        self.assertEqual(state(walk), before)
        walk.step(0, 0)
        self.fails(NotUnderWay, {"kind": 0, "hall": 0}, walk.step, 0, 0)

    def test_changed_lists_change_nothing(self):
        walk = Walk(NET)
        walk.come(0)
        walk.ways.clear()
        walk.ways.append((1, 1))
        self.assertEqual(walk.ways, [(0, 0)])

    def test_two_walks_are_two(self):
        one, other = Walk(NET), Walk(NET)
        one.come(0)
        one.finish()
        self.assertEqual(state(other), (((0, 0), (0, 0)), (0, 0), (0, 0), []))


if __name__ == "__main__":
    unittest.main()
