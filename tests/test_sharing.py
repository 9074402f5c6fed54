"""The shares of customs: points [33] and [34], and the heading fewchairs/sharing.py."""

import unittest

from fewchairs.customs import Custom
from fewchairs.errors import NotFree, TooLarge, WrongHouse
from fewchairs.houses import House
from fewchairs.look import first_fault, is_free
from fewchairs.makers import fewest_custom, most_custom, order_custom
from fewchairs.shares import Shares
from fewchairs.sharing import custom_of_shares, shares_of
from tests.helpers import MANY, Case, all_customs, all_shares


class SharesOf(Case):
    def test_some_customs(self):
        self.assertTrue(shares_of(order_custom(House(3, 3), [1, 0, 2])) == Shares.spelled([], [0, 0, 0], []))
        self.assertTrue(shares_of(order_custom(House(3, 2), [2, 1, 0])) == Shares.spelled([], [], [1, 1]))
        self.assertTrue(shares_of(most_custom(House(3, 3))) == Shares.spelled([1], [0], [0]))

    def test_exactly_the_order_free_customs_have_shares(self):
        for chairs in (1, 2):
            every = all_shares(chairs)
            answers = {custom_of_shares(shares).answers: shares for shares in every}
            self.assertEqual(len(answers), len(every))
            for custom in all_customs(House(3, chairs)):
                self.assertEqual(is_free(custom), custom.answers in answers)
                if is_free(custom):
                    self.assertTrue(shares_of(custom) == answers[custom.answers])
                else:
                    self.fails(NotFree, {"group": first_fault(custom)}, shares_of, custom)

    def test_there_and_back(self):
        for chairs, step in [(1, 1), (2, 1), (3, 1), (4, 5), (5, 23)]:
            for shares in all_shares(chairs)[::step]:
                self.assertTrue(shares_of(custom_of_shares(shares)) == shares)

    def test_wide_houses_with_other_guests(self):
        for shares in all_shares(2):
            answers = custom_of_shares(shares).answers
            for most in [(3, 3, 3), (3, MANY, 4)]:
                self.assertTrue(shares_of(Custom(House(3, 2, most=most), answers)) == shares)

    def test_wrong_houses(self):
        for house in [House(1, 2), House(2, 2), House(4, 1), House(2, 2, most=(1, 1))]:
            self.fails(WrongHouse, {"what": "kinds"}, shares_of, fewest_custom(house))
        for most in [(2, 3, 3), (3, 2, 3), (3, 3, 2), (1, 1, 1)]:
            self.fails(WrongHouse, {"what": "most"}, shares_of, fewest_custom(House(3, 2, most=most)))

    def test_customs_that_are_not_order_free(self):
        custom = fewest_custom(House(3, 2))
        self.fails(NotFree, {"group": (0, 2, 2)}, shares_of, custom)
        self.assertEqual(first_fault(custom), (0, 2, 2))


class CustomOfShares(Case):
    def test_the_same_kinds_go(self):
        for chairs in (1, 2, 3):
            for shares in all_shares(chairs):
                custom = custom_of_shares(shares)
                self.assertEqual(custom.house, House(3, chairs))
                self.assertEqual(custom.answers, tuple(shares.goes(meeting) for meeting in custom.house.meetings()))
                self.assertTrue(chairs == 3 or is_free(custom))

    def test_5_and_6_chairs(self):
        self.assertEqual(custom_of_shares(Shares.spelled([1] * 5, [], [])).house.chairs, 5)
        self.fails(TooLarge, {"size": 6}, custom_of_shares, Shares.spelled([1] * 5, [0], []))
        self.fails(TooLarge, {"size": MANY}, custom_of_shares, Shares((MANY, 0, 0), (((1, MANY),), (), ())))


if __name__ == "__main__":
    unittest.main()
