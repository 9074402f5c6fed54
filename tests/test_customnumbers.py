"""The numbers of customs: point [9] and the heading fewchairs/customnumbers.py."""

import unittest

from fewchairs.customnumbers import count_customs, custom_at, number_of
from fewchairs.customs import Custom
from fewchairs.errors import BadNumber
from fewchairs.houses import House
from tests.helpers import SMALL_HOUSES, Case, all_customs

GREATEST = House(6, 5)


class Numbers(Case):
    def test_example(self):
        self.assertEqual(custom_at(House(2, 2), 2).answers, (1, 1, 0, 0))

    def test_all_customs_of_small_houses(self):
        for house in SMALL_HOUSES:
            customs = all_customs(house)
            self.assertEqual(count_customs(house), len(customs))
            for number, custom in enumerate(customs):
                self.assertEqual(custom_at(house, number), custom)
                self.assertEqual(number_of(custom), number)

    def test_the_order_is_that_of_the_answers(self):
        answers = [custom_at(House(2, 2), number).answers for number in range(4)]
        self.assertEqual(answers, [(1, 0, 0, 0), (1, 0, 1, 0), (1, 1, 0, 0), (1, 1, 1, 0)])

    def test_counts(self):
        self.assertEqual(count_customs(House(1, 5)), 1)
        self.assertEqual(count_customs(House(2, 5)), 32)
        self.assertEqual(count_customs(House(3, 2)), 192)
        self.assertEqual(count_customs(House.unlike(4, 2)), 81)

    def test_a_house_without_meetings_has_one_custom(self):
        house = House.unlike(2, 2)
        self.assertEqual(count_customs(house), 1)
        self.assertEqual(custom_at(house, 0).answers, ())
        self.assertEqual(number_of(Custom(house, [])), 0)
        self.fails(BadNumber, {"number": 1}, custom_at, house, 1)

    def test_the_first_and_the_last_custom_of_the_greatest_house(self):
        number = 1
        for meeting in GREATEST.meetings():
            number *= sum(1 for count in meeting if count)
        self.assertEqual(count_customs(GREATEST), number)
        first, last = custom_at(GREATEST, 0), custom_at(GREATEST, number - 1)
        for meeting in GREATEST.meetings():
            kinds = [kind for kind in range(6) if meeting[kind]]
            self.assertEqual(first(meeting), kinds[0])
            self.assertEqual(last(meeting), kinds[-1])
        self.assertEqual(number_of(first), 0)
        self.assertEqual(number_of(last), number - 1)

    def test_great_numbers_there_and_back(self):
        for number in (1, 10 ** 100 + 7, count_customs(GREATEST) // 3, count_customs(GREATEST) - 2):
            self.assertEqual(number_of(custom_at(GREATEST, number)), number)

    def test_the_last_meeting_counts_least(self):
        house = House(3, 1)
        self.assertEqual(custom_at(house, 0).answers, (2, 1, 1, 0, 0, 0))
        self.assertEqual(custom_at(house, 1).answers, (2, 1, 1, 0, 1, 0))
        self.assertEqual(custom_at(house, 2).answers, (2, 1, 1, 2, 0, 0))
        self.assertEqual(custom_at(house, 4).answers, (2, 2, 1, 0, 0, 0))

    def test_no_such_number(self):
        for number in (-1, 4, 5, 10 ** 5000, -(10 ** 5000)):
            self.fails(BadNumber, {"number": number}, custom_at, House(2, 2), number)
        number = count_customs(GREATEST)
        self.fails(BadNumber, {"number": number}, custom_at, GREATEST, number)


if __name__ == "__main__":
    unittest.main()
