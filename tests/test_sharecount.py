"""The numbers of shares: point [34] and the heading fewchairs/sharecount.py."""

import unittest

from fewchairs.errors import BadNumber, TooLarge
from fewchairs.sharecount import count_shares, number_of_shares, shares_at
from fewchairs.shares import Shares
from tests.helpers import MANY, Case, all_shares


class CountShares(Case):
    def test_some_numbers(self):
        self.assertEqual([count_shares(chairs) for chairs in range(1, 6)], [6, 24, 80, 240, 672])
        self.assertEqual(count_shares(12), 372736)

    def test_as_many_as_there_are(self):
        for chairs in range(1, 5):
            self.assertEqual(count_shares(chairs), len(all_shares(chairs)))

    def test_1000_and_1001_chairs(self):
        self.assertEqual(count_shares(1000), 1001 * 1002 // 2 * 2 ** 1000)
        for chairs in [0, -1, 1001, MANY]:
            self.fails(BadNumber, {"number": chairs}, count_shares, chairs)


class Numbers(Case):
    def test_example(self):
        self.assertEqual(number_of_shares(Shares.spelled([1], [0], [])), 16)

    def test_all_shares_in_ascending_order(self):
        for chairs in range(1, 5):
            for number, shares in enumerate(all_shares(chairs)):
                self.assertTrue(shares_at(chairs, number) == shares)
                self.assertEqual(number_of_shares(shares), number)

    def test_the_order_is_that_of_keep_and_then_of_all_letters(self):
        for chairs in (3, 4):
            keys = [(shares.keep, [letter for kind in range(3) for letter in shares.letters(kind)])
                    for shares in all_shares(chairs)]
            self.assertEqual(keys, sorted(keys))

    def test_first_and_last(self):
        for chairs in [1, 2, 12, 13, 199, 200]:
            first, last = shares_at(chairs, 0), shares_at(chairs, count_shares(chairs) - 1)
            self.assertEqual((first.keep, first.words), ((0, 0, chairs), ((), (), ((0, chairs),))))
            self.assertEqual((last.keep, last.words), ((chairs, 0, 0), (((2, chairs),), (), ())))
            self.assertEqual(number_of_shares(first), 0)
            self.assertEqual(number_of_shares(last), count_shares(chairs) - 1)

    def test_great_numbers_there_and_back(self):
        for chairs in [12, 57, 200]:
            for part in [2, 3, 7, 11, 1000]:
                number = count_shares(chairs) * (part - 1) // part
                shares = shares_at(chairs, number)
                self.assertEqual(shares.chairs, chairs)
                self.assertEqual(number_of_shares(shares), number)

    def test_200_stretches(self):
        shares = Shares.spelled([1, 2] * 100, [], [])
        self.assertTrue(shares_at(200, number_of_shares(shares)) == shares)

    def test_wrong_numbers(self):
        for chairs in [0, -1, 201, 1000, MANY]:
            for number in [-1, 0, 10 ** 400]:
                self.fails(BadNumber, {"number": chairs}, shares_at, chairs, number)
        for chairs in [1, 2, 200]:
            for number in [-1, -MANY, count_shares(chairs), count_shares(chairs) + 1]:
                self.fails(BadNumber, {"number": number}, shares_at, chairs, number)

    def test_200_and_201_chairs(self):
        self.assertEqual(number_of_shares(Shares((0, 0, 200), ((), (), ((0, 200),)))), 0)
        self.fails(TooLarge, {"size": 201}, number_of_shares, Shares((0, 0, 201), ((), (), ((0, 201),))))
        self.fails(TooLarge, {"size": MANY}, number_of_shares, Shares((MANY, 0, 0), (((1, MANY),), (), ())))


if __name__ == "__main__":
    unittest.main()
