"""Cards: points [38] to [41] and the heading fewchairs/cards.py."""

import itertools
import unittest

from fewchairs.cardnumbers import cards_at, count_cards
from fewchairs.cards import Cards
from fewchairs.errors import BadCards, BadCrowd
from tests.helpers import MANY, Case, all_cards

FOUR = Cards(0, [1, 2, 3], [[3, 2], [3], []])
THIRTY = cards_at(30, count_cards(30) * 5 // 7)


def fits(row, cards):
    """Whether the cards fit, by the words of [39]."""
    for a, b in itertools.combinations(range(len(row)), 2):
        card = list(cards[a])
        ahead = [person for person in card[:card.index(row[b])] if person in row[b + 1:]]
        if list(cards[b])[:len(ahead)] != ahead:
            return a
    return None


def candidates(host, row):
    """All lists of orders of the people later in the row."""
    return itertools.product(*[itertools.permutations(row[at + 1:]) for at in range(len(row))])


def plain_goes(cards, three):
    """Who goes by the words of [40]."""
    places = {person: at for at, person in enumerate(cards.row)}
    in_row = sorted([person for person in three if person != cards.host], key=lambda person: places[person])
    if cards.host in three:
        return in_row[1]
    card = cards.cards[places[in_row[0]]]
    return max(in_row[1:], key=card.index)


def run(cards, people):
    """Who is left if the people come in this order."""
    sitting = []
    for person in people:
        sitting.append(person)
        if len(sitting) == 3:
            sitting.remove(plain_goes(cards, sitting))
    return sorted(sitting)


class Making(Case):
    def test_attributes(self):
        cards = Cards(0, (1, 2, 3), ((3, 2), [3], ()))
        self.assertEqual((cards.host, cards.row, cards.cards, cards.people), (0, (1, 2, 3), ((3, 2), (3,), ()), 4))

    def test_two_people(self):
        cards = Cards(0, [1], [[]])
        self.assertEqual((cards.host, cards.row, cards.cards, cards.people), (0, (1,), ((),), 2))

    def test_equal_cards(self):
        self.assertTrue(FOUR == Cards(0, (1, 2, 3), ((3, 2), (3,), ())))
        self.assertFalse(FOUR != Cards(0, (1, 2, 3), ((3, 2), (3,), ())))
        self.assertFalse(FOUR == Cards(0, [1, 2, 3], [[2, 3], [3], []]))
        self.assertFalse(FOUR == Cards(0, [1, 3, 2], [[3, 2], [2], []]))
        self.assertFalse(FOUR == Cards(1, [2, 3, 0], [[3, 0], [0], []]))
        self.assertFalse(Cards(0, [1], [[]]) == Cards(0, [1, 2], [[2], []]))
        self.assertFalse(FOUR == (FOUR.host, FOUR.row, FOUR.cards))

    def test_changed_lists_change_nothing(self):
        row, cards = [1, 2, 3], [[3, 2], [3], []]
        made = Cards(0, row, cards)
        row.reverse()
        cards[0].reverse()
        cards.append([])
        self.assertTrue(made == FOUR)

    def test_arguments_stay(self):
        row, cards = [1, 2, 3, 4], [[4, 2, 3], [3, 4], [4], []]
        self.fails(BadCards, {"at": 0}, Cards, 0, row, cards)
        self.assertEqual((row, cards), ([1, 2, 3, 4], [[4, 2, 3], [3, 4], [4], []]))

    def test_all_cards_of_few_people(self):
        for people in range(2, 6):
            for host, *row in itertools.permutations(range(people)):
                for cards in candidates(host, row):
                    at = fits(row, cards)
                    if host > row[0]:
                        self.fails(BadCards, {"at": -1}, Cards, host, row, cards)
                    elif at is not None:
                        self.fails(BadCards, {"at": at}, Cards, host, row, cards)
                    else:
                        self.assertEqual(Cards(host, row, cards).cards, cards)

    def test_29_and_30_people(self):
        for people in (29, 30):
            row = list(range(1, people))
            cards = [row[at + 1:] for at in range(people - 1)]
            self.assertEqual(Cards(0, row, cards).people, people)
        row = list(range(1, 31))
        self.fails(BadCards, {"at": -1}, Cards, 0, row, [row[at + 1:] for at in range(30)])


class WrongCards(Case):
    def wrong(self, at, host, row, cards):
        self.fails(BadCards, {"at": at}, Cards, host, row, cards)

    def test_the_host_and_the_row(self):
        for host, row in [(0, []), (1, []), (0, [0]), (0, [2]), (1, [1]), (-1, [0]), (0, [-1]), (1, [0]), (2, [0, 1]),
                          (0, [1, 1]), (0, [1, 3]), (0, [1, 2, 4]), (4, [1, 2, 3]), (0, [1, 2, 0]), (3, [2, 1, 0]),
                          (0, [1, 2, MANY]), (2, [1, 3, 0])]:
            self.wrong(-1, host, row, [row[at + 1:] for at in range(len(row))])
            self.wrong(-1, host, row, [])

    def test_missing_cards(self):
        self.wrong(0, 0, [1, 2, 3], [])
        self.wrong(1, 0, [1, 2, 3], [[3, 2]])
        self.wrong(2, 0, [1, 2, 3], [[3, 2], [3]])
        self.wrong(0, 0, [1], [])

    def test_cards_that_are_no_orders(self):
        for card in [[], [3], [2], [2, 2], [3, 3], [2, 3, 1], [0, 2], [1, 2], [2, 3, 3], [2, 4], [-1, 2]]:
            self.wrong(0, 0, [1, 2, 3], [card, [3], []])
            self.wrong(0, 0, [1, 2, 3], [card])
        for card in [[], [2], [3, 3], [1]]:
            self.wrong(1, 0, [1, 2, 3], [[3, 2], card, []])
        self.wrong(2, 0, [1, 2, 3], [[3, 2], [3], [3]])
        self.wrong(2, 0, [1, 2, 3], [[3, 2], [3], [0]])

    def test_too_many_cards(self):
        self.wrong(3, 0, [1, 2, 3], [[3, 2], [3], [], []])
        self.wrong(1, 0, [1], [[], [], []])

    def test_cards_that_do_not_fit(self):
        self.wrong(0, 0, [1, 2, 3, 4], [[4, 2, 3], [3, 4], [4], []])
        self.wrong(1, 0, [1, 2, 3, 4, 5], [[2, 3, 4, 5], [5, 3, 4], [4, 5], [5], []])
        self.wrong(0, 0, [1, 2, 3, 4, 5], [[5, 3, 2, 4], [5, 3, 4], [4, 5], [5], []])

    def test_orders_come_before_numbers_and_numbers_before_fitting(self):
        unfit = [[4, 2, 3], [3, 4], [4], []]
        self.wrong(4, 0, [1, 2, 3, 4], unfit + [[]])
        self.wrong(2, 0, [1, 2, 3, 4], unfit[:2] + [[3], []])
        self.wrong(3, 0, [1, 2, 3, 4], unfit[:3] + [[4], []])
        self.wrong(3, 0, [1, 2, 3, 4], unfit[:3])
        self.wrong(-1, 0, [1, 2, 3, 5], unfit)


class Goes(Case):
    def test_example(self):
        self.assertEqual(FOUR.goes([3, 2, 1]), 2)

    def test_by_the_words_of_40(self):
        for people in range(3, 6):
            for cards in all_cards(people)[::people]:
                for three in itertools.permutations(range(people), 3):
                    self.assertEqual(cards.goes(list(three)), plain_goes(cards, list(three)))

    def test_30_people(self):
        for three in [[0, 1, 2], [29, 3, 17], [5, 28, 11], [8, 9, 10], [THIRTY.host, 4, 21]]:
            for order in itertools.permutations(three):
                self.assertEqual(THIRTY.goes(list(order)), plain_goes(THIRTY, three))

    def test_the_list_stays(self):
        three = [3, 2, 1]
        FOUR.goes(three)
        self.assertEqual(three, [3, 2, 1])

    def test_wrong_lists(self):
        for three in [[], [1], [1, 2], [1, 2, 3, 0], [1, 1, 2], [3, 3, 3], [1, 2, 4], [-1, 1, 2], [0, 1, MANY],
                      [0, 1, 1]]:
            self.fails(BadCrowd, {"crowd": three}, FOUR.goes, three)
        self.fails(BadCrowd, {"crowd": [0, 1, 2]}, Cards(0, [1], [[]]).goes, [0, 1, 2])


class Stay(Case):
    def test_example(self):
        self.assertEqual(FOUR.stay([2, 3, 1]), [1, 3])

    def test_all_rows_of_all_crowds(self):
        for people, step in [(2, 1), (3, 1), (4, 3), (5, 60)]:
            for cards in all_cards(people)[::step]:
                for number in range(people + 1):
                    for row in itertools.permutations(range(people), number):
                        self.assertEqual(cards.stay(list(row)), run(cards, row))

    def test_fewer_than_two_people(self):
        self.assertEqual(FOUR.stay([]), [])
        self.assertEqual(FOUR.stay([3]), [3])
        self.assertEqual(FOUR.stay([0]), [0])
        self.assertEqual(FOUR.stay([3, 2]), [2, 3])

    def test_30_people(self):
        for row in [list(range(30)), list(range(29, -1, -1)), list(range(0, 30, 2)), list(range(29, 0, -3)),
                    [person for person in range(30) if person != THIRTY.host]]:
            self.assertEqual(THIRTY.stay(row), run(THIRTY, row))

    def test_arguments_and_results_do_not_count(self):
        people = [3]
        FOUR.stay(people).append(0)
        self.assertEqual(people, [3])
        people = [2, 3, 1]
        FOUR.stay(people).clear()
        self.assertEqual(people, [2, 3, 1])
        self.assertEqual(FOUR.stay(people), [1, 3])

    def test_wrong_lists(self):
        for people in [[1, 1], [0, 1, 2, 3, 0], [4], [-1], [0, 1, MANY], [2, 3, 2], [0, 1, 2, 3, 4]]:
            self.fails(BadCrowd, {"crowd": people}, FOUR.stay, people)


if __name__ == "__main__":
    unittest.main()
