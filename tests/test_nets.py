"""Nets: points [50], [53], [54] and the heading fewchairs/nets.py."""

import itertools
import unittest

from fewchairs.errors import BadCrowd, BadRoute, WrongHouse
from fewchairs.hallrows import held
from fewchairs.houses import House
from fewchairs.nets import Net
from fewchairs.walks import Walk
from tests.helpers import GREATEST, MANY, Case, all_crowds, all_rows, order_rule, small_nets

ONE = order_rule(House(2, 1), [1, 0])
TWO = order_rule(House(2, 1), [0, 1])
NET = Net([ONE, TWO], [[0, 1], [1, 0]])


def walked(net, row):
    """The crowds that came to each hall, and the seating, if the first way is always taken at once."""
    walk = Walk(net)
    visits = [[0] * net.kinds for _ in net.rules]
    for kind in row:
        walk.come(kind)
        while walk.ways:
            kind, hall = walk.ways[-1]
            visits[hall][kind] += 1
            walk.step(kind, hall)
    return [tuple(counts) for counts in visits], (walk.held, walk.home)


def from_all(net, crowd):
    """The late seating by the words of [54]."""
    coming = [{kind: crowd[kind] if hall in net.routes[kind] else 0 for kind in range(net.kinds)}
              for hall in range(len(net.rules))]
    while True:
        ends = [rule.end(tuple(guests.values())) for rule, guests in zip(net.rules, coming)]
        further = [{kind: 0 for kind in range(net.kinds)} for _ in net.rules]
        for kind, route in enumerate(net.routes):
            for at, hall in enumerate(route):
                before = route[at - 1]
                further[hall][kind] = crowd[kind] if at == 0 else coming[before][kind] - ends[before][kind]
        if further == coming:
            home = tuple(crowd[kind] - sum(end[kind] for end in ends) for kind in range(net.kinds))
            return tuple(ends), home
        coming = further


class Making(Case):
    def test_attributes(self):
        self.assertEqual((NET.rules, NET.routes, NET.kinds), ((ONE, TWO), ((0, 1), (1, 0)), 2))
        net = Net((GREATEST,), ((0,), [], (), [0], [], []))
        self.assertEqual((net.rules, net.routes, net.kinds), ((GREATEST,), ((0,), (), (), (0,), (), ()), 6))

    def test_changed_lists_change_nothing(self):
        rules, routes = [ONE, TWO], [[0, 1], [1, 0]]
        net = Net(rules, routes)
        self.assertEqual((rules, routes), ([ONE, TWO], [[0, 1], [1, 0]]))
        rules.reverse()
        routes[0].clear()
        routes.append([0])
        self.assertEqual((net.rules, net.routes), ((ONE, TWO), ((0, 1), (1, 0))))
        self.assertEqual(net.settle((1, 1)), NET.settle((1, 1)))

    def test_numbers_of_halls(self):
        for many in (1, 2, 3, 4):
            self.assertEqual(len(Net([ONE] * many, [[many - 1], []]).rules), many)
        for many in (0, 5, 6):
            self.fails(WrongHouse, {"what": "halls"}, Net, [ONE] * many, [[0], [0]])
        other = order_rule(House(3, 1), [0, 1, 2])
        self.fails(WrongHouse, {"what": "halls"}, Net, [ONE, other, ONE, ONE, ONE], [[9]])

    def test_the_same_guests(self):
        for other in [order_rule(House(2, 1, most=(2, 2)), [0, 1]), order_rule(House(3, 1), [0, 1, 2]),
                      order_rule(House(1, 1), [0])]:
            for rules in [[ONE, other], [other, ONE], [ONE, ONE, ONE, other], [ONE, other, ONE]]:
                self.fails(WrongHouse, {"what": "guests"}, Net, rules, [[0], [1]])
                self.fails(WrongHouse, {"what": "guests"}, Net, rules, [])
        self.assertEqual(Net([ONE, order_rule(House(2, 5), [0, 1])], [[0], [1]]).kinds, 2)

    def test_routes(self):
        three = order_rule(House(3, 2), [0, 1, 2])
        for kind, routes in [(0, []), (1, [[0]]), (2, [[0], [1]]), (0, [[2], [2], [2]]), (0, [[-1], [], []]),
                             (1, [[0, 1], [0, 1, 0], [5]]), (1, [[], [1, 1], []]), (2, [[1], [0], [0, 2]]),
                             (2, [[1], [0], [MANY]]), (3, [[0], [1], [], []]), (3, [[0], [1], [0, 1], [7], [7]]),
                             (1, [[0], [2], [], [], []]), (2, [[], [], [0, 1, -1], []])]:
            self.fails(BadRoute, {"kind": kind}, Net, [three, three], routes)
        self.assertEqual(Net([three, three], [[], [0, 1], [1, 0]]).routes, ((), (0, 1), (1, 0)))


class Settling(Case):
    def test_example(self):
        self.assertEqual(NET.settle((1, 1)), (((1, 0), (0, 1)), (0, 0)))
        self.assertEqual(NET.settle_late((1, 1)), (((0, 1), (1, 0)), (0, 0)))
        self.assertEqual(NET.visits((1, 1)), [(1, 0), (0, 1)])

    def test_as_a_walk(self):
        for net in small_nets():
            for crowd in all_crowds(net.rules[0].house.most):
                for row in all_rows(crowd)[::3]:
                    self.assertEqual((net.visits(crowd), net.settle(crowd)), walked(net, row))

    def test_the_late_seating(self):
        unlike = 0
        for net in small_nets():
            for crowd in all_crowds(net.rules[0].house.most):
                self.assertEqual(net.settle_late(crowd), from_all(net, crowd))
                unlike += net.settle_late(crowd) != net.settle(crowd)
        self.assertGreater(unlike, 10)

    def test_each_hall_holds_the_end_of_who_came(self):
        for net in small_nets():
            for crowd in all_crowds(net.rules[0].house.most):
                ends = tuple(rule.end(guests) for rule, guests in zip(net.rules, net.visits(crowd)))
                self.assertEqual(net.settle(crowd)[0], ends)

    def test_halls_in_a_row(self):
        rules = [order_rule(House(3, chairs), order) for chairs, order in
                 [(1, [0, 1, 2]), (2, [2, 1, 0]), (1, [1, 0, 2]), (3, [2, 0, 1])]]
        for many in (1, 2, 3, 4):
            net = Net(rules[:many], [list(range(many))] * 3)
            for crowd in itertools.product([0, 1, 2, 5, MANY], repeat=3):
                seating = net.settle(crowd)
                self.assertEqual(list(seating[0]) + [seating[1]], held(crowd, *rules[:many]))
                self.assertEqual(net.settle_late(crowd), seating)

    def test_empty_routes_and_halls_on_no_route(self):
        net = Net([ONE, TWO, ONE], [[], [1]])
        self.assertEqual(net.visits((7, 9)), [(0, 0), (0, 9), (0, 0)])
        for seating in (net.settle((7, 9)), net.settle_late((7, 9))):
            self.assertEqual(seating, (((0, 0), (0, 1), (0, 0)), (7, 8)))
        net = Net([ONE], [[], []])
        self.assertEqual((net.visits((7, 9)), net.settle((7, 9))), ([(0, 0)], (((0, 0),), (7, 9))))

    def test_one_rule_in_several_halls(self):
        net = Net([ONE, ONE], [[0, 1], [0, 1]])
        self.assertEqual(net.settle((5, 1)), (((0, 1), (1, 0)), (4, 0)))
        self.assertEqual(net.visits((5, 1)), [(5, 1), (5, 0)])

    def test_the_empty_crowd(self):
        self.assertEqual(NET.visits((0, 0)), [(0, 0), (0, 0)])
        self.assertEqual(NET.settle((0, 0)), (((0, 0), (0, 0)), (0, 0)))
        self.assertEqual(NET.settle_late((0, 0)), (((0, 0), (0, 0)), (0, 0)))

    def test_many_guests(self):
        self.assertEqual(NET.settle((MANY, MANY)), (((0, 1), (1, 0)), (MANY - 1, MANY - 1)))
        self.assertEqual(NET.visits((MANY, MANY)), [(MANY, MANY), (MANY, MANY)])
        halls = [GREATEST, order_rule(House(6, 5), [5, 4, 3, 2, 1, 0]), order_rule(House(6, 4), [0, 1, 2, 3, 4, 5]),
                 GREATEST]
        net = Net(halls, [[0, 1, 2, 3], [3, 2, 1, 0], [1, 0, 3, 2], [2, 3, 0, 1], [0, 2, 1, 3], [3, 1]])
        for crowd in [(MANY,) * 6, (MANY, 1, 2, 3, 0, MANY), (3, 3, 3, 3, 3, 3)]:
            small = tuple(min(count, 40) for count in crowd)
            for settle in (net.settle, net.settle_late):
                sitting, home = settle(crowd)
                self.assertEqual(tuple(sum(counts) for counts in zip(home, *sitting)), crowd)
                self.assertEqual(sitting, settle(small)[0])
        self.assertEqual(net.settle((9,) * 6), walked(net, [0, 1, 2, 3, 4, 5] * 9)[1])

    def test_a_seat_that_is_fought_for_by_all(self):
        # Each kind comes first to the hall in which it is the worst one.
        rules = [order_rule(House(4, 5), [(first + at) % 4 for at in range(4)]) for first in (1, 2, 3, 0)]
        net = Net(rules, [[0, 1, 2, 3], [1, 2, 3, 0], [2, 3, 0, 1], [3, 0, 1, 2]])
        for crowd in [(MANY,) * 4, (5, 5, 5, 5), (6, 5, 5, 5), (1, 2, 3, 4)]:
            self.assertEqual(net.settle_late(crowd), from_all(net, crowd))
            small = tuple(min(count, 25) for count in crowd)
            row = [kind for kind in range(4) for _ in range(small[kind])]
            self.assertEqual(net.settle(crowd)[0], walked(net, row)[1][0])

    def test_wrong_crowds(self):
        net = Net([order_rule(House(2, 1, most=(2, 3)), [0, 1])], [[0], []])
        for crowd in [(3, 0), (0, 4), (-1, 0), (1,), (1, 1, 1), ()]:
            self.fails(BadCrowd, {"crowd": crowd}, net.visits, crowd)
            self.fails(BadCrowd, {"crowd": crowd}, net.settle, crowd)
            self.fails(BadCrowd, {"crowd": crowd}, net.settle_late, crowd)
        self.fails(BadCrowd, {"crowd": (MANY + 1, 0)}, NET.settle_late, (MANY + 1, 0))

    def test_a_changed_result_changes_nothing(self):
        NET.visits((1, 1)).clear()
        self.assertEqual(NET.visits((1, 1)), [(1, 0), (0, 1)])
        first = NET.visits((0, 0))
        first[0] = (5, 5)
        self.assertEqual(NET.visits((0, 0)), [(0, 0), (0, 0)])


if __name__ == "__main__":
    unittest.main()
