"""The numbers of cards: points [41] and [42], and the heading fewchairs/cardnumbers.py."""

import itertools
import math
import unittest

from fewchairs.cardnumbers import cards_at, count_cards, number_of_cards
from fewchairs.cards import Cards
from fewchairs.errors import BadCards, BadNumber
from tests.helpers import MANY, Case


def plain_cards(people):
    """All cards of so many people, found by trying all rows and cards."""
    found = []
    for host, *row in itertools.permutations(range(people)):
        for cards in itertools.product(*[itertools.permutations(row[at + 1:]) for at in range(len(row))]):
            try:
                found.append(Cards(host, row, cards))
            except BadCards:
                pass
    return found


def digits_of(cards):
    """The digits and their bases by the words of [42]."""
    people = cards.people
    pairs = list(itertools.combinations(range(people), 2))
    digits = [(pairs.index((cards.host, cards.row[0])), len(pairs))]
    for at in range(1, len(cards.row)):
        free = [person for person in range(people) if person != cards.host and person not in cards.row[:at]]
        digits.append((free.index(cards.row[at]), len(free)))
    for at in range(len(cards.row) - 1, -1, -1):
        unread = set(cards.row[at + 1:])
        for person in cards.cards[at]:
            if len(unread) >= 2:
                first = min(unread, key=cards.row.index)
                digits.append((0 if person == first else 1, 2))
            unread.remove(person)
    return digits


def plain_number(cards):
    number = 0
    for digit, base in digits_of(cards):
        number = number * base + digit
    return number


class CountCards(Case):
    def test_some_numbers(self):
        self.assertEqual([count_cards(people) for people in range(2, 7)], [1, 3, 24, 480, 23040])

    def test_as_many_as_there_are(self):
        for people in range(2, 6):
            self.assertEqual(count_cards(people), len(plain_cards(people)))

    def test_the_edges(self):
        self.assertEqual(count_cards(30), math.factorial(30) // 2 * 2 ** (28 * 27 // 2))
        self.assertEqual(count_cards(29), math.factorial(29) // 2 * 2 ** (27 * 26 // 2))
        for people in [1, 0, -1, 31, MANY]:
            self.fails(BadNumber, {"number": people}, count_cards, people)


class Numbers(Case):
    def test_some_cards(self):
        self.assertTrue(cards_at(2, 0) == Cards(0, [1], [[]]))
        self.assertTrue(cards_at(3, 0) == Cards(0, [1, 2], [[2], []]))
        self.assertTrue(cards_at(3, 1) == Cards(0, [2, 1], [[1], []]))
        self.assertTrue(cards_at(3, 2) == Cards(1, [2, 0], [[0], []]))
        self.assertTrue(cards_at(4, 0) == Cards(0, [1, 2, 3], [[2, 3], [3], []]))
        self.assertTrue(cards_at(4, 1) == Cards(0, [1, 2, 3], [[3, 2], [3], []]))
        self.assertEqual(number_of_cards(Cards(0, [1, 2, 3], [[3, 2], [3], []])), 1)

    def test_all_cards_of_few_people(self):
        for people in range(2, 6):
            numbers = []
            for cards in plain_cards(people):
                number = number_of_cards(cards)
                self.assertEqual(number, plain_number(cards))
                self.assertTrue(cards_at(people, number) == cards)
                numbers.append(number)
            self.assertEqual(sorted(numbers), list(range(count_cards(people))))

    def test_6_people(self):
        for number in range(0, count_cards(6), 97):
            cards = cards_at(6, number)
            self.assertEqual(plain_number(cards), number)
            self.assertEqual(number_of_cards(cards), number)

    def test_many_people(self):
        for people in [7, 12, 29, 30]:
            number = count_cards(people)
            for wanted in [0, 1, number - 1, number // 2, number * 2 // 3, number * 5 // 7, number * 9 // 11]:
                cards = cards_at(people, wanted)
                self.assertEqual(cards.people, people)
                self.assertEqual(number_of_cards(cards), wanted)
                self.assertEqual(plain_number(cards), wanted)

    def test_first_and_last(self):
        first, last = cards_at(30, 0), cards_at(30, count_cards(30) - 1)
        self.assertEqual((first.host, first.row), (0, tuple(range(1, 30))))
        self.assertEqual(first.cards[0], tuple(range(2, 30)))
        self.assertEqual((last.host, last.row), (28, (29,) + tuple(range(27, -1, -1))))
        self.assertEqual(last.cards[-3], (0, 1))

    def test_wrong_numbers(self):
        for people in [1, 0, -1, 31, MANY]:
            for number in [-1, 0, MANY]:
                self.fails(BadNumber, {"number": people}, cards_at, people, number)
        for people in [2, 3, 6, 30]:
            for number in [-1, count_cards(people), count_cards(people) + 5]:
                self.fails(BadNumber, {"number": number}, cards_at, people, number)


if __name__ == "__main__":
    unittest.main()
