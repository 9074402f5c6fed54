"""Rows of leaders: point [43] and the heading fewchairs/leaders.py."""

import inspect
import itertools
import unittest

from fewchairs.cardnumbers import cards_at, count_cards
from fewchairs.cards import Cards
from fewchairs.errors import BadOrder, TooLarge
from fewchairs.leaders import leader_cards, leader_rows
from tests.helpers import MANY, Case, all_cards

FOUR = Cards(0, [1, 2, 3], [[3, 2], [3], []])


def plain_rows(cards):
    """The rows of leaders, found by trying all orders."""
    return [row for row in itertools.permutations(range(cards.people))
            if all(row[at] in cards.stay(list(row[at:])) for at in range(cards.people - 1))]


def plain_cards(cards, row):
    """The cards of the people in the row by the words of [43]."""
    found = []
    for at, person in enumerate(row):
        later = list(row[at + 1:])
        ahead = {x: [y for y in later if y != x and cards.goes([person, x, y]) == y] for x in later}
        card = sorted(later, key=lambda x: -len(ahead[x]))
        for x, y in itertools.combinations(card, 2):
            assert cards.goes([person, x, y]) == y
        found.append(tuple(card))
    return tuple(found)


class LeaderRows(Case):
    def test_three_and_four_people(self):
        self.assertEqual(list(leader_rows(Cards(0, [1, 2], [[2], []]))),
                         [(0, 1, 2), (0, 2, 1), (1, 0, 2), (1, 2, 0)])
        self.assertEqual(list(leader_rows(FOUR)),
                         [(0, 1, 2, 3), (0, 1, 3, 2), (0, 3, 1, 2), (0, 3, 2, 1),
                          (1, 0, 2, 3), (1, 0, 3, 2), (1, 2, 0, 3), (1, 2, 3, 0)])
        self.assertEqual(list(leader_rows(Cards(0, [1], [[]]))), [(0, 1), (1, 0)])

    def test_all_rows_in_ascending_order(self):
        for people, step in [(2, 1), (3, 1), (4, 1), (5, 7), (6, 4001)]:
            for cards in [cards_at(people, number) for number in range(0, count_cards(people), step)]:
                rows = list(leader_rows(cards))
                self.assertEqual(rows, plain_rows(cards))
                self.assertEqual(len(rows), 2 ** (people - 1))

    def test_7_and_8_people(self):
        for people in (7, 8):
            rows = list(leader_rows(cards_at(people, count_cards(people) * 3 // 5)))
            self.assertEqual(len(rows), 2 ** (people - 1))
            self.assertEqual(rows, sorted(set(rows)))

    def test_it_is_a_generator(self):
        self.assertTrue(inspect.isgeneratorfunction(leader_rows))
        rows = leader_rows(FOUR)
        first = next(rows)
        self.assertEqual([first] + list(rows), plain_rows(FOUR))

    def test_9_people_are_too_many_when_it_is_iterated(self):
        for people in (9, 30):
            rows = leader_rows(cards_at(people, 0))
            self.fails(TooLarge, {"size": people}, next, rows)
            self.fails(TooLarge, {"size": people}, list, leader_rows(cards_at(people, 0)))


class LeaderCards(Case):
    def test_four_people(self):
        self.assertEqual(leader_cards(FOUR, [0, 1, 2, 3]), ((1, 2, 3), (3, 2), (3,), ()))
        self.assertEqual(leader_cards(FOUR, (1, 2, 3, 0)), ((0, 3, 2), (0, 3), (0,), ()))
        self.assertEqual(leader_cards(Cards(0, [1], [[]]), [1, 0]), ((0,), ()))

    def test_by_the_words_of_43(self):
        for people, step in [(3, 1), (4, 1), (5, 11), (6, 5003)]:
            for cards in [cards_at(people, number) for number in range(0, count_cards(people), step)]:
                for row in plain_rows(cards):
                    found = leader_cards(cards, list(row))
                    self.assertEqual(found, plain_cards(cards, row))
                    self.assertEqual(leader_cards(cards, row), found)

    def test_who_goes_by_the_cards_of_the_leaders(self):
        for cards in all_cards(4) + all_cards(5)[::17]:
            for row in plain_rows(cards)[::3]:
                found = leader_cards(cards, row)
                for three in itertools.combinations(range(cards.people), 3):
                    first, x, y = sorted(three, key=row.index)
                    card = found[row.index(first)]
                    self.assertEqual(cards.goes(list(three)), max(x, y, key=card.index))

    def test_the_row_of_the_cards_is_one_of_leaders(self):
        for number in [0, 3, 7]:
            cards = cards_at(30, count_cards(30) * number // 8)
            row = (cards.host,) + cards.row
            self.assertEqual(leader_cards(cards, row), (cards.row,) + cards.cards)

    def test_30_people_with_the_host_last(self):
        cards = cards_at(30, count_cards(30) * 3 // 7)
        row = list(cards.row) + [cards.host]
        self.assertEqual(leader_cards(cards, row), plain_cards(cards, row))

    def test_the_row_stays(self):
        row = [1, 2, 3, 0]
        leader_cards(FOUR, row)
        self.assertEqual(row, [1, 2, 3, 0])

    def test_wrong_rows(self):
        for row, at in [([], 0), ([0], 1), ([0, 1, 2], 3), ([0, 1, 2, 3, 0], 4), ([0, 1, 2, 3, 9], 4),
                        ([0, 0, 1, 2], 1), ([0, 1, 1, 2], 2), ([4, 0, 1, 2], 0), ([-1, 0, 1, 2], 0),
                        ([0, 1, 2, 2], 3), ([0, 1, MANY, 2], 2), ([2, 0, 1, 3], 0), ([3, 9], 0), ([1, 2], 2),
                        ([1, 3], 1), ([0, 2, 1, 3], 1)]:
            self.fails(BadOrder, {"at": at}, leader_cards, FOUR, row)
            self.fails(BadOrder, {"at": at}, leader_cards, FOUR, tuple(row))

    def test_all_wrong_orders(self):
        for cards in all_cards(4)[::3]:
            for row in itertools.permutations(range(4)):
                wrong = [at for at in range(4) if row[at] not in cards.stay(list(row[at:]))]
                if wrong:
                    self.fails(BadOrder, {"at": wrong[0]}, leader_cards, cards, row)


if __name__ == "__main__":
    unittest.main()
