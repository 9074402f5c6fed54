"""Customs by an order and of orders in turn: points [46], [47] and the heading fewchairs/orders.py."""

import itertools
import unittest

from fewchairs.errors import BadOrder, WrongHouse
from fewchairs.hallrows import held
from fewchairs.houses import House
from fewchairs.look import is_free
from fewchairs.makers import order_custom
from fewchairs.orders import in_turn, order_of
from fewchairs.rules import Rule
from tests.helpers import GREATEST, MANY, RULES, SMALL_HOUSES, Case, all_crowds, order_rule


def orders_of(kinds):
    return [list(order) for order in itertools.permutations(range(kinds))]


def seated(orders, crowd):
    """The crowd that gets the chairs, one by one, by the words of [47]."""
    rest, chairs = list(crowd), [0] * len(crowd)
    for order in orders:
        for kind in order:
            if rest[kind] > 0:
                rest[kind] -= 1
                chairs[kind] += 1
                break
    return tuple(chairs)


class OrderOf(Case):
    def is_right(self, rule):
        """Checks the answer, and returns its first word."""
        answer = order_of(rule)
        self.assertIsInstance(answer, tuple)
        if answer[0] == "order":
            self.assertIsInstance(answer[1], list)
            self.assertEqual(len(answer), 2)
            self.assertTrue(order_custom(rule.house, answer[1]) == rule.custom)
        else:
            word, first, second, x, y = answer
            self.assertEqual(word, "crossed")
            self.assertNotEqual(x, y)
            for meeting in (first, second):
                self.assertTrue(meeting[x] > 0 and meeting[y] > 0)
            self.assertEqual((rule.custom(first), rule.custom(second)), (x, y))
        return answer[0]

    def test_exactly_the_customs_by_an_order(self):
        found = {"order": 0, "crossed": 0}
        for rule in RULES:
            by_order = any([order_custom(rule.house, order) == rule.custom for order in orders_of(rule.house.kinds)])
            word = self.is_right(rule)
            self.assertEqual(word, "order" if by_order else "crossed")
            found[word] += 1
        self.assertGreater(min(found.values()), 10)

    def test_customs_by_an_order_are_order_free(self):
        for house in SMALL_HOUSES:
            for order in orders_of(house.kinds):
                self.assertTrue(is_free(order_custom(house, order)))

    def test_the_greatest_houses(self):
        for order in ([3, 1, 4, 0, 5, 2], [5, 4, 3, 2, 1, 0]):
            self.assertEqual(order_of(order_rule(House(6, 5), order)), ("order", order))
        self.assertEqual(self.is_right(GREATEST), "crossed")

    def test_no_meetings(self):
        for house in [House(2, 5, most=(2, 3)), House(1, 1, most=(1,)), House.unlike(4, 5)]:
            self.assertEqual(self.is_right(order_rule(house, list(range(house.kinds)))), "order")

    def test_one_kind(self):
        self.assertEqual(order_of(order_rule(House(1, 3), [0])), ("order", [0]))

    def test_the_same_question_again(self):
        for rule in RULES[::5]:
            answer = order_of(rule)
            if answer[0] == "order":
                answer[1].reverse()
                self.is_right(rule)
            self.assertEqual(order_of(rule), order_of(rule))


class InTurn(Case):
    def test_a_custom(self):
        custom = in_turn(House(2, 2), [[0, 1], [1, 0]])
        self.assertEqual(custom.answers, (1, 1, 0, 0))
        self.assertTrue(custom.house == House(2, 2))

    def test_the_chairs_are_given_in_turn(self):
        for house in SMALL_HOUSES:
            choices = orders_of(house.kinds)
            if house.kinds ** house.chairs > 30:
                choices = choices[::5]
            for orders in itertools.product(choices, repeat=house.chairs):
                custom = in_turn(house, list(orders))
                self.assertTrue(is_free(custom))
                rule = Rule(custom)
                for crowd in all_crowds(house.most)[::3]:
                    self.assertEqual(rule.end(crowd), seated(orders, crowd))

    def test_halls_with_one_chair_in_a_row(self):
        for most in [(4, 4), (1, 1, 1, 1), (3, 2, 1)]:
            for chairs in (1, 2, 3):
                for orders in list(itertools.product(orders_of(len(most)), repeat=chairs))[::chairs ** 5]:
                    house = House(len(most), chairs, most=most)
                    rules = [order_rule(House(len(most), 1, most=most), order) for order in orders]
                    together = rules[0]
                    for rule in rules[1:]:
                        together = together >> rule
                    self.assertTrue(in_turn(house, list(orders)) == together.custom)

    def test_five_chairs_and_many_guests(self):
        orders = orders_of(6)[::144]
        rule = Rule(in_turn(House(6, 5), orders))
        for crowd in [(MANY,) * 6, (MANY, 0, 0, 0, 0, 0), (0, 0, 1, 2, 0, MANY), (1, 1, 1, 1, 1, 1)]:
            self.assertEqual(rule.end(crowd), seated(orders, crowd))
            rules = [order_rule(House(6, 1), order) for order in orders]
            holding = held(crowd, *rules)[:-1]
            self.assertEqual(rule.end(crowd), tuple(sum(counts) for counts in zip(*holding)))

    def test_one_chair_is_one_order(self):
        for order in orders_of(4):
            self.assertTrue(in_turn(House(4, 1), [order]) == order_custom(House(4, 1), order))

    def test_no_meetings(self):
        self.assertEqual(in_turn(House.unlike(2, 2), [[0, 1], [1, 0]]).answers, ())

    def test_arguments_stay(self):
        orders = [[0, 1, 2], [2, 1, 0]]
        custom = in_turn(House(3, 2), orders)
        self.assertEqual(orders, [[0, 1, 2], [2, 1, 0]])
        orders[0].reverse()
        self.assertTrue(custom == in_turn(House(3, 2), [[0, 1, 2], [2, 1, 0]]))

    def test_wrong_numbers_of_orders(self):
        for many in (0, 1, 3, 5):
            self.fails(WrongHouse, {"what": "chairs"}, in_turn, House(2, 2), [[0, 1]] * many)
            self.fails(WrongHouse, {"what": "chairs"}, in_turn, House(2, 2), [[7]] * many)

    def test_wrong_orders(self):
        for at, order in [(0, []), (1, [0]), (2, [0, 1]), (0, [3, 1, 2]), (1, [0, 0, 1]), (1, [1, -1, 2]),
                          (3, [0, 1, 2, 0]), (3, [2, 1, 0, 3]), (2, [0, 1, 1, 2]), (0, [-3, 0, 1])]:
            self.fails(BadOrder, {"at": at}, in_turn, House(3, 2), [order, [0, 1, 2]])
            self.fails(BadOrder, {"at": at}, in_turn, House(3, 2), [[2, 1, 0], order])
        self.fails(BadOrder, {"at": 2}, in_turn, House(3, 2), [[0, 1], [5, 5, 5]])


if __name__ == "__main__":
    unittest.main()
