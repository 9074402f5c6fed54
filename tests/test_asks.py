"""Askers: point [44] and the heading fewchairs/asks.py."""

import unittest

from fewchairs.asks import Asker
from fewchairs.cardnumbers import cards_at, count_cards
from fewchairs.cards import Cards
from fewchairs.cardtables import cards_of, custom_of_cards
from fewchairs.crowds import crowd_of
from fewchairs.errors import BadKind, BadNumber, Unfinished
from tests.helpers import MANY, Case, all_cards


def answered(asker, goes):
    """Answers all that the asker asks for; the list of what it asked for."""
    asked = []
    while asker.next_three() is not None:
        asked.append(asker.next_three())
        asker.tell(goes(asker.next_three()))
    return asked


class Learning(Case):
    def learns(self, cards):
        asker = Asker(cards.people)
        asked = answered(asker, cards.goes)
        self.assertTrue(asker.learned() == cards)
        self.assertLessEqual(len(asked), (cards.people - 2) ** 2)
        self.assertEqual(len({tuple(three) for three in asked}), len(asked))
        for three in asked:
            self.assertEqual(three, sorted(set(three)))
            self.assertEqual(len(three), 3)
        self.assertEqual(asker.asked, [(tuple(three), cards.goes(three)) for three in asked])

    def test_all_cards_of_few_people(self):
        for people in (2, 3, 4, 5):
            for cards in all_cards(people):
                self.learns(cards)

    def test_some_cards_of_more_people(self):
        for people in range(6, 13):
            every = count_cards(people)
            for at in range(9):
                self.learns(cards_at(people, (every - 1) * at // 8))

    def test_12_people_backwards(self):
        row = list(range(10, -1, -1))
        row.remove(0)
        cards = Cards(0, [11] + row, [row] + [row[at + 1:] for at in range(10)])
        self.learns(cards)

    def test_the_custom_that_answers(self):
        for number in range(0, count_cards(6), 1777):
            custom = custom_of_cards(cards_at(6, number))
            asker = Asker(6)
            answered(asker, lambda three: custom.who_goes(crowd_of(6, *three)))
            self.assertTrue(asker.learned() == cards_of(custom))

    def test_two_people(self):
        asker = Asker(2)
        self.assertIsNone(asker.next_three())
        self.assertEqual(asker.asked, [])
        self.assertTrue(asker.learned() == Cards(0, [1], [[]]))

    def test_three_people(self):
        for goes, cards in [(0, Cards(1, [2, 0], [[0], []])), (1, Cards(0, [2, 1], [[1], []])),
                            (2, Cards(0, [1, 2], [[2], []]))]:
            asker = Asker(3)
            self.assertEqual(asker.next_three(), [0, 1, 2])
            asker.tell(goes)
            self.assertIsNone(asker.next_three())
            self.assertEqual(asker.asked, [((0, 1, 2), goes)])
            self.assertTrue(asker.learned() == cards)

    def test_two_askers_are_two(self):
        one, other = Asker(4), Asker(4)
        one.tell(one.next_three()[0])
        self.assertEqual(other.asked, [])
        self.assertEqual(len(one.asked), 1)


class Questions(Case):
    def test_wrong_numbers_of_people(self):
        for people in (1, 0, -1, 13, 30, -MANY, MANY):
            self.fails(BadNumber, {"number": people}, Asker, people)
        self.assertIsNotNone(Asker(12).next_three())

    def test_the_same_three_until_the_answer(self):
        cards = cards_at(7, 123456)
        asker = Asker(7)
        while asker.next_three() is not None:
            three = asker.next_three()
            for _ in range(3):
                self.assertEqual(asker.next_three(), three)
            before = asker.asked
            asker.next_three().reverse()
            asker.next_three().clear()
            self.assertEqual(asker.next_three(), three)
            self.assertEqual(asker.asked, before)
            asker.tell(cards.goes(three))
            self.assertEqual(asker.asked, before + [(tuple(three), cards.goes(three))])
            self.assertNotEqual(asker.next_three(), three)

    def test_learned_too_early(self):
        cards = cards_at(6, 4321)
        asker = Asker(6)
        while asker.next_three() is not None:
            three = asker.next_three()
            self.fails(Unfinished, {"meeting": tuple(three)}, asker.learned)
            self.assertEqual(asker.next_three(), three)
            asker.tell(cards.goes(three))
        self.assertTrue(asker.learned() == cards)

    def test_wrong_answers_change_nothing(self):
        cards = cards_at(5, 77)
        asker = Asker(5)
        while asker.next_three() is not None:
            three, asked = asker.next_three(), asker.asked
            for person in [person for person in range(-1, 6) if person not in three] + [MANY, -MANY]:
                self.fails(BadKind, {"kind": person}, asker.tell, person)
                self.assertEqual((asker.next_three(), asker.asked), (three, asked))
            asker.tell(cards.goes(three))

    def test_nothing_is_asked(self):
        for people in (2, 3, 6):
            asker = Asker(people)
            cards = cards_at(people, 0)
            answered(asker, cards.goes)
            asked = asker.asked
            for person in (-1, 0, 1, 2, people):
                self.fails(BadKind, {"kind": person}, asker.tell, person)
            self.assertEqual(asker.asked, asked)
            self.assertTrue(asker.learned() == cards)
            self.assertIsNone(asker.next_three())

    def test_tell_returns_nothing(self):
        asker = Asker(4)
        self.assertIsNone(asker.tell(asker.next_three()[2]))

    def test_a_changed_list_changes_nothing(self):
        asker = Asker(5)
        answered(asker, cards_at(5, 200).goes)
        asked = asker.asked
        asker.asked.clear()
        asker.asked.append(((0, 1, 2), 0))
        self.assertEqual(asker.asked, asked)
        self.assertTrue(asker.learned() == cards_at(5, 200))

    def test_the_same_question_again(self):
        asker = Asker(6)
        answered(asker, cards_at(6, 20000).goes)
        self.assertTrue(asker.learned() == asker.learned())
        self.assertEqual(asker.asked, asker.asked)


if __name__ == "__main__":
    unittest.main()
