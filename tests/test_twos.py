"""Two kinds: point [30] and the heading fewchairs/twos.py."""

import unittest

from fewchairs.customs import Custom
from fewchairs.errors import BadCrowd, BadNumber, NotFree, WrongHouse
from fewchairs.houses import House
from fewchairs.look import first_fault, is_free
from fewchairs.makers import fewest_custom, most_custom, order_custom
from fewchairs.rules import Rule
from fewchairs.twos import threshold_custom, threshold_of, two_end
from tests.helpers import MANY, Case, all_crowds, all_customs


class ThresholdOf(Case):
    def test_some_customs(self):
        self.assertEqual(threshold_of(order_custom(House(2, 3), [0, 1])), 3)
        self.assertEqual(threshold_of(order_custom(House(2, 3), [1, 0])), 0)
        self.assertEqual(threshold_of(most_custom(House(2, 3))), 2)
        self.assertEqual(threshold_of(most_custom(House(2, 2, most=(3, 3)))), 1)
        self.assertEqual(threshold_of(Custom(House(2, 1, most=(2, MANY)), [1, 1, 0])), 1)

    def test_all_customs(self):
        for chairs in range(1, 6):
            found = []
            for custom in all_customs(House(2, chairs)):
                i = custom.answers.index(0)
                if custom.answers == (1,) * i + (0,) * (chairs + 2 - i):
                    self.assertEqual(threshold_of(custom), i - 1)
                    found.append(i - 1)
                else:
                    self.fails(NotFree, {"group": first_fault(custom)}, threshold_of, custom)
            self.assertEqual(sorted(found), list(range(chairs + 1)))

    def test_wrong_houses(self):
        for house in [House(1, 2), House(3, 1), House(3, 2, most=(1, 1, 1))]:
            self.fails(WrongHouse, {"what": "kinds"}, threshold_of, most_custom(house))
        for most in [(2, 3), (3, 2), (1, 1), (MANY, 2)]:
            self.fails(WrongHouse, {"what": "most"}, threshold_of, most_custom(House(2, 2, most=most)))

    def test_customs_that_are_not_order_free(self):
        self.fails(NotFree, {"group": (2, 2)}, threshold_of, fewest_custom(House(2, 2)))
        self.fails(WrongHouse, {"what": "most"}, threshold_of, fewest_custom(House(2, 2, most=(2, 9))))
        self.fails(WrongHouse, {"what": "kinds"}, threshold_of, fewest_custom(House(3, 2)))


class ThresholdCustom(Case):
    def test_answers(self):
        self.assertTrue(threshold_custom(2, 1) == Custom(House(2, 2), [1, 1, 0, 0]))
        self.assertTrue(threshold_custom(2, 0) == Custom(House(2, 2), [1, 0, 0, 0]))
        self.assertTrue(threshold_custom(2, 2) == Custom(House(2, 2), [1, 1, 1, 0]))

    def test_there_and_back(self):
        for chairs in range(1, 6):
            for keep in range(chairs + 1):
                custom = threshold_custom(chairs, keep)
                self.assertEqual(custom.house, House(2, chairs))
                self.assertTrue(is_free(custom))
                self.assertEqual(threshold_of(custom), keep)

    def test_wrong_numbers(self):
        for chairs in [0, -1, 6, MANY]:
            self.fails(BadNumber, {"number": chairs}, threshold_custom, chairs, -7)
            self.fails(BadNumber, {"number": chairs}, threshold_custom, chairs, 0)
        for keep in [-1, 4, MANY]:
            self.fails(BadNumber, {"number": keep}, threshold_custom, 3, keep)


class TwoEnd(Case):
    def test_some_ends(self):
        self.assertEqual(two_end(5, 2, (1, 9)), (1, 4))
        self.assertEqual(two_end(5, 2, (9, 1)), (4, 1))
        self.assertEqual(two_end(5, 2, (9, 9)), (2, 3))
        self.assertEqual(two_end(5, 2, (2, 3)), (2, 3))
        self.assertEqual(two_end(5, 2, (4, 0)), (4, 0))
        self.assertEqual(two_end(5, 2, (0, 0)), (0, 0))

    def test_the_ends_of_the_custom(self):
        for chairs in range(1, 5):
            for keep in range(chairs + 1):
                rule = Rule(threshold_custom(chairs, keep))
                for crowd in all_crowds((chairs + 3, chairs + 3)):
                    self.assertEqual(two_end(chairs, keep, crowd), rule.end(crowd))

    def test_great_numbers(self):
        self.assertEqual(two_end(MANY, 3, (MANY, MANY)), (3, MANY - 3))
        self.assertEqual(two_end(10 ** 40, 10 ** 39, (10 ** 41, 5)), (10 ** 40 - 5, 5))
        self.assertEqual(two_end(10 ** 40, 10 ** 39, (7, 10 ** 41)), (7, 10 ** 40 - 7))
        self.assertEqual(two_end(10 ** 40, 0, (10 ** 39, 10 ** 39)), (10 ** 39, 10 ** 39))
        self.assertEqual(two_end(MANY, MANY, (MANY, MANY)), (MANY, 0))
        self.assertEqual(two_end(MANY, 0, (MANY, MANY)), (0, MANY))
        self.assertEqual(two_end(1, 1, (MANY, MANY)), (1, 0))

    def test_wrong_numbers(self):
        for chairs in [0, -1, -MANY]:
            self.fails(BadNumber, {"number": chairs}, two_end, chairs, 99, (-1, 0))
        for keep in [-1, 6, MANY]:
            self.fails(BadNumber, {"number": keep}, two_end, 5, keep, (-1, 0))
        for crowd in [(-1, 0), (0, -1), (1,), (), (1, 1, 1)]:
            self.fails(BadCrowd, {"crowd": crowd}, two_end, 5, 2, crowd)


if __name__ == "__main__":
    unittest.main()
