"""The cards of customs: point [41] and the heading fewchairs/cardtables.py."""

import itertools
import unittest

from fewchairs.cardnumbers import cards_at, count_cards
from fewchairs.cards import Cards
from fewchairs.cardtables import cards_of, custom_of_cards
from fewchairs.crowds import kinds_in
from fewchairs.customs import Custom
from fewchairs.errors import NotFree, TooLarge, WrongHouse
from fewchairs.houses import House
from fewchairs.look import first_fault, is_free
from fewchairs.makers import fewest_custom, most_custom, order_custom
from fewchairs.rules import Rule
from tests.helpers import Case, all_cards, all_customs


def free_tables(people):
    """All tables of order-free customs, put together from those of each four people."""
    four = [custom.table() for custom in all_customs(House.unlike(4, 2)) if is_free(custom)]
    tables = [{}]
    for group in itertools.combinations(range(people), 4):
        found = []
        for table in tables:
            for part in four:
                own = {}
                for meeting, goes in part.items():
                    there = [group[kind] for kind in kinds_in(meeting)]
                    own[tuple(int(person in there) for person in range(people))] = group[goes]
                if all(table.get(meeting, goes) == goes for meeting, goes in own.items()):
                    found.append({**table, **own})
        tables = found
    return tables


class CardsOf(Case):
    def test_some_customs(self):
        self.assertTrue(cards_of(order_custom(House.unlike(4, 2), [2, 3, 0, 1]))
                        == Cards(2, [3, 0, 1], [[0, 1], [1], []]))
        self.assertTrue(cards_of(order_custom(House.unlike(3, 2), [2, 0, 1])) == Cards(0, [2, 1], [[1], []]))
        self.assertTrue(cards_of(order_custom(House.unlike(2, 2), [1, 0])) == Cards(0, [1], [[]]))

    def test_exactly_the_order_free_customs_have_cards(self):
        for people in (2, 3, 4):
            answers = {custom_of_cards(cards).answers: cards for cards in all_cards(people)}
            self.assertEqual(len(answers), count_cards(people))
            for custom in all_customs(House.unlike(people, 2)):
                self.assertEqual(is_free(custom), custom.answers in answers)
                if is_free(custom):
                    self.assertTrue(cards_of(custom) == answers[custom.answers])
                else:
                    self.fails(NotFree, {"group": first_fault(custom)}, cards_of, custom)

    def test_all_order_free_customs_of_5_people(self):
        house = House.unlike(5, 2)
        found = {Custom.of(house, table).answers for table in free_tables(5)}
        self.assertEqual(found, {custom_of_cards(cards).answers for cards in all_cards(5)})
        self.assertEqual(len(found), count_cards(5))

    def test_there_and_back(self):
        for people, step in [(2, 1), (3, 1), (4, 1), (5, 7), (6, 1371)]:
            for number in range(0, count_cards(people), step):
                cards = cards_at(people, number)
                self.assertTrue(cards_of(custom_of_cards(cards)) == cards)

    def test_wrong_houses(self):
        self.fails(WrongHouse, {"what": "kinds"}, cards_of, order_custom(House(1, 3), [0]))
        self.fails(WrongHouse, {"what": "kinds"}, cards_of, order_custom(House.unlike(1, 2), [0]))
        for most in [(), (1, 1, 2), (2, 1, 1)]:
            for chairs in (1, 2):
                self.fails(WrongHouse, {"what": "most"}, cards_of, fewest_custom(House(3, chairs, most=most)))
        for chairs in (1, 3, 5):
            self.fails(WrongHouse, {"what": "chairs"}, cards_of, fewest_custom(House.unlike(3, chairs)))

    def test_customs_that_are_not_order_free(self):
        custom = Custom(House.unlike(4, 2), [1, 0, 3, 2])
        self.fails(NotFree, {"group": (1, 1, 1, 1)}, cards_of, custom)
        house = House.unlike(6, 2)
        table = order_custom(house, [0, 1, 2, 3, 4, 5]).table()
        table[(1, 0, 0, 1, 0, 1)] = 0
        self.fails(NotFree, {"group": (1, 0, 0, 1, 1, 1)}, cards_of, Custom.of(house, table))


class CustomOfCards(Case):
    def test_the_same_people_go(self):
        for people, step in [(2, 1), (3, 1), (4, 1), (5, 11), (6, 2311)]:
            for number in range(0, count_cards(people), step):
                cards = cards_at(people, number)
                custom = custom_of_cards(cards)
                self.assertEqual(custom.house, House.unlike(people, 2))
                for meeting, goes in custom.table().items():
                    self.assertEqual(goes, cards.goes(kinds_in(meeting)))
                self.assertTrue(is_free(custom))

    def test_the_ends_are_who_stays(self):
        for people, step in [(4, 5), (5, 97), (6, 9001)]:
            for number in range(0, count_cards(people), step):
                cards = cards_at(people, number)
                rule = Rule(custom_of_cards(cards))
                for crowd in itertools.product((0, 1), repeat=people):
                    self.assertEqual(kinds_in(rule.end(crowd)), cards.stay(kinds_in(crowd)))

    def test_6_and_7_people(self):
        self.assertEqual(custom_of_cards(cards_at(6, 0)).house.kinds, 6)
        self.fails(TooLarge, {"size": 7}, custom_of_cards, cards_at(7, 0))
        self.fails(TooLarge, {"size": 30}, custom_of_cards, cards_at(30, 0))

    def test_plain_customs(self):
        house = House.unlike(5, 2)
        self.assertTrue(custom_of_cards(cards_of(most_custom(house))) == most_custom(house))


if __name__ == "__main__":
    unittest.main()
