"""Two cards compared: points [40], [41] and the heading fewchairs/cardparts.py."""

import unittest

from fewchairs.cardnumbers import cards_at, count_cards
from fewchairs.cardparts import three_parting
from fewchairs.cards import Cards
from fewchairs.errors import WrongHouse
from tests.helpers import Case, all_cards


class ThreeParting(Case):
    def parts(self, one, other):
        """Checks that the answer is three people from whom different people go."""
        three = three_parting(one, other)
        self.assertIsInstance(three, list)
        self.assertEqual(three, sorted(set(three)))
        self.assertEqual(len(three), 3)
        self.assertNotEqual(one.goes(three), other.goes(three))

    def test_two_cards(self):
        one, other = Cards(0, [1, 2, 3], [[3, 2], [3], []]), Cards(0, [1, 2, 3], [[2, 3], [3], []])
        self.assertEqual(three_parting(one, other), [1, 2, 3])
        self.assertEqual(three_parting(other, one), [1, 2, 3])
        self.assertIsNone(three_parting(one, one))

    def test_all_cards_of_few_people(self):
        for people in (2, 3, 4):
            found = all_cards(people)
            for at, one in enumerate(found):
                for place, other in enumerate(all_cards(people)):
                    if at == place:
                        self.assertIsNone(three_parting(one, other))
                    else:
                        self.parts(one, other)

    def test_cards_of_5_people(self):
        found = all_cards(5)[::17]
        for one in found:
            for other in all_cards(5)[::17]:
                if one == other:
                    self.assertIsNone(three_parting(one, other))
                else:
                    self.parts(one, other)

    def test_the_only_cards_of_2_people(self):
        self.assertIsNone(three_parting(Cards(0, [1], [[]]), Cards(0, (1,), ((),))))

    def test_12_13_and_30_people(self):
        for people in (12, 13, 30):
            every = count_cards(people)
            for number in (0, 1, every // 3, every - 2):
                one = cards_at(people, number)
                self.assertIsNone(three_parting(one, cards_at(people, number)))
                self.parts(one, cards_at(people, number + 1))
                self.parts(cards_at(people, every - 1), one)
                self.parts(one, cards_at(people, every // 2))

    def test_unlike_numbers_of_people(self):
        for people, others in [(2, 3), (3, 2), (4, 30), (30, 29), (12, 13)]:
            self.fails(WrongHouse, {"what": "kinds"}, three_parting, cards_at(people, 0), cards_at(others, 0))

    def test_a_changed_result_changes_nothing(self):
        one, other = cards_at(4, 3), cards_at(4, 17)
        found = three_parting(one, other)
        kept = list(found)
        found.clear()
        self.assertEqual(three_parting(one, other), kept)
        self.assertTrue(one == cards_at(4, 3) and other == cards_at(4, 17))


if __name__ == "__main__":
    unittest.main()
