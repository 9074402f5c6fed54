"""Customs and renaming: points [8] and [10] and the heading fewchairs/customs.py."""

import itertools
import unittest

from fewchairs.customs import Custom
from fewchairs.errors import BadCrowd, BadCustom, BadOrder
from fewchairs.houses import House
from tests.helpers import MANY, SMALL_HOUSES, Case, all_customs, crowds_of_size

HOUSE = House(2, 2)


class Making(Case):
    def test_example(self):
        self.assertEqual(HOUSE.meetings(), [(0, 3), (1, 2), (2, 1), (3, 0)])
        custom = Custom(HOUSE, [1, 0, 1, 0])
        self.assertEqual(custom((1, 2)), 0)
        self.fails(BadCustom, {"at": 2}, Custom, HOUSE, [1, 0, 2, 0])

    def test_attributes(self):
        custom = Custom(HOUSE, [1, 0, 1, 0])
        self.assertEqual(custom.house, HOUSE)
        self.assertEqual(custom.answers, (1, 0, 1, 0))
        self.assertIs(type(custom.answers), tuple)

    def test_answers_may_be_a_tuple(self):
        self.assertEqual(Custom(HOUSE, (1, 1, 0, 0)), Custom(HOUSE, [1, 1, 0, 0]))

    def test_answers_are_copied_and_stay_as_they_were(self):
        answers = [1, 0, 1, 0]
        custom = Custom(HOUSE, answers)
        self.assertEqual(answers, [1, 0, 1, 0])
        answers[1] = 1
        answers.append(5)
        self.assertEqual(custom.answers, (1, 0, 1, 0))
        self.assertEqual(custom((1, 2)), 0)

    def test_wrong_answers(self):
        for answers, at in [([0, 0, 0, 0], 0), ([1, 1, 0, 1], 3), ([1, -1, 0, 0], 1),
                            ([1, 2, 0, 1], 1), ([1, 0, 10 ** 30, 0], 2), ([-2, 0, 0, 0], 0)]:
            self.fails(BadCustom, {"at": at}, Custom, HOUSE, answers)

    def test_too_few_or_too_many_answers(self):
        for answers, at in [([], 0), ([1], 1), ([1, 1, 0], 3), ([1, 1, 0, 0, 0], 4), ([1, 1, 0, 0, 7, 7], 4)]:
            self.fails(BadCustom, {"at": at}, Custom, HOUSE, answers)

    def test_a_wrong_answer_comes_before_a_wrong_number(self):
        self.fails(BadCustom, {"at": 1}, Custom, HOUSE, [1, 5])
        self.fails(BadCustom, {"at": 3}, Custom, HOUSE, [1, 1, 0, 1, 0])

    def test_a_house_without_meetings(self):
        house = House.unlike(2, 2)
        self.assertEqual(Custom(house, []).answers, ())
        self.assertEqual(Custom(house, []).table(), {})
        self.fails(BadCustom, {"at": 0}, Custom, house, [0])
        self.fails(BadCrowd, {"crowd": (1, 1)}, Custom(house, []), (1, 1))

    def test_equal_customs(self):
        custom = Custom(HOUSE, [1, 0, 1, 0])
        self.assertTrue(custom == Custom(House(2, 2), (1, 0, 1, 0)))
        self.assertFalse(custom != Custom(House(2, 2), (1, 0, 1, 0)))
        self.assertFalse(custom == Custom(HOUSE, [1, 1, 1, 0]))
        self.assertFalse(custom == Custom(House(2, 2, most=(3, 3)), [1, 0, 1, 0]))
        self.assertFalse(Custom(House.unlike(2, 2), []) == Custom(House.unlike(2, 3), []))
        self.assertFalse(custom == (1, 0, 1, 0))

    def test_the_greatest_house(self):
        house = House(6, 5)
        custom = Custom(house, [max(x for x in range(6) if m[x]) for m in house.meetings()])
        self.assertEqual(custom((6, 0, 0, 0, 0, 0)), 0)
        self.assertEqual(custom((1, 1, 1, 1, 1, 1)), 5)


class Asking(Case):
    def test_each_answer_belongs_to_its_meeting(self):
        for house in SMALL_HOUSES:
            for custom in all_customs(house):
                pairs = list(zip(crowds_of_size(house, house.chairs + 1), custom.answers))
                self.assertEqual(list(custom.table().items()), pairs)
                for meeting, kind in pairs:
                    self.assertEqual(custom(meeting), kind)
                    self.assertEqual(custom.who_goes(meeting), kind)

    def test_no_meetings(self):
        custom = Custom(House(2, 2, most=(2, MANY)), [1, 1, 0])
        for crowd in ((1, 1), (2, 2), (3, 0), (-1, 4), (3,), (1, 1, 1), (), (0, 0), (10 ** 30, 0)):
            self.fails(BadCrowd, {"crowd": crowd}, custom, crowd)
            self.fails(BadCrowd, {"crowd": crowd}, custom.who_goes, crowd)

    def test_a_changed_table_changes_nothing(self):
        custom = Custom(HOUSE, [1, 0, 1, 0])
        table = custom.table()
        table[(1, 2)] = 1
        del table[(0, 3)]
        self.assertEqual(custom.table(), {(0, 3): 1, (1, 2): 0, (2, 1): 1, (3, 0): 0})
        self.assertEqual(custom((1, 2)), 0)


class OfTable(Case):
    def test_the_custom_of_its_table(self):
        for house in SMALL_HOUSES:
            for custom in all_customs(house):
                self.assertEqual(Custom.of(house, custom.table()), custom)

    def test_the_order_of_the_dict_does_not_matter(self):
        table = {(3, 0): 0, (1, 2): 0, (0, 3): 1, (2, 1): 1}
        self.assertEqual(Custom.of(HOUSE, table).answers, (1, 0, 1, 0))

    def test_the_dict_is_copied_and_stays_as_it_was(self):
        table = {(0, 3): 1, (1, 2): 0, (2, 1): 1, (3, 0): 0}
        before = dict(table)
        custom = Custom.of(HOUSE, table)
        self.assertEqual(list(table.items()), list(before.items()))
        table[(1, 2)] = 1
        table.clear()
        self.assertEqual(custom.table(), before)

    def test_missing_and_wrong_entries(self):
        self.fails(BadCustom, {"at": 0}, Custom.of, HOUSE, {})
        self.fails(BadCustom, {"at": 1}, Custom.of, HOUSE, {(0, 3): 1, (2, 1): 5})
        self.fails(BadCustom, {"at": 2}, Custom.of, HOUSE, {(0, 3): 1, (1, 2): 0, (2, 1): 2, (3, 0): 0})
        self.fails(BadCustom, {"at": 0}, Custom.of, HOUSE, {(0, 3): 0, (1, 2): 9, (2, 1): 1, (3, 0): 0})
        self.fails(BadCustom, {"at": 3}, Custom.of, HOUSE, {(0, 3): 1, (1, 2): 0, (2, 1): 1, (3, 0): -1})

    def test_further_keys(self):
        table = {(9, 9): 0, (0, 3): 1, (1, 2): 0, (2, 1): 1, (3, 0): 0}
        self.fails(BadCustom, {"at": 4}, Custom.of, HOUSE, table)
        self.fails(BadCustom, {"at": 0}, Custom.of, House.unlike(2, 2), {(1, 1): 0})
        self.assertEqual(Custom.of(House.unlike(2, 2), {}).answers, ())

    def test_a_missing_entry_comes_before_further_keys(self):
        table = {(9, 9): 0, (0, 3): 1, (1, 2): 0, (2, 1): 1, (8, 8): 1}
        self.fails(BadCustom, {"at": 3}, Custom.of, HOUSE, table)


class Renaming(Case):
    def test_a_renaming_written_out(self):
        house = House(3, 1, most=(1, 2, 3))
        # Meetings: (0,0,2) (0,1,1) (0,2,0) (1,0,1) (1,1,0).
        custom = Custom(house, [2, 1, 1, 0, 1])
        renamed = custom.renamed([1, 2, 0])
        self.assertEqual(renamed.house, House(3, 1, most=(3, 1, 2)))
        self.assertEqual(renamed.table(), {(0, 0, 2): 2, (0, 1, 1): 2, (1, 0, 1): 2, (1, 1, 0): 1,
                                           (2, 0, 0): 0})

    def test_each_renaming_by_its_words(self):
        for house in SMALL_HOUSES:
            for custom in all_customs(house)[::7]:
                for names in itertools.permutations(range(house.kinds)):
                    renamed = custom.renamed(list(names))
                    self.assertEqual(renamed.house.chairs, house.chairs)
                    for kind in range(house.kinds):
                        self.assertEqual(renamed.house.most[names[kind]], house.most[kind])
                    for meeting, kind in custom.table().items():
                        other = [0] * house.kinds
                        for old, count in enumerate(meeting):
                            other[names[old]] = count
                        self.assertEqual(renamed(tuple(other)), names[kind])

    def test_the_same_names_change_nothing(self):
        custom = Custom(HOUSE, [1, 0, 1, 0])
        self.assertEqual(custom.renamed([0, 1]), custom)
        self.assertEqual(custom.renamed([1, 0]).answers, (1, 0, 1, 0))
        self.assertEqual(Custom(HOUSE, [1, 1, 1, 0]).renamed([1, 0]).answers, (1, 0, 0, 0))

    def test_the_list_stays_as_it_was(self):
        names = [1, 0]
        custom = Custom(HOUSE, [1, 1, 1, 0])
        custom.renamed(names)
        self.assertEqual(names, [1, 0])
        self.assertEqual(custom.answers, (1, 1, 1, 0))

    def test_wrong_names(self):
        custom = all_customs(House(3, 1, most=(1, 1, 1)))[0]
        for names, at in [([], 0), ([0], 1), ([0, 1], 2), ([0, 0, 1], 1), ([0, 3, 1], 1), ([-1, 0, 1], 0),
                          ([2, 1, 2], 2), ([0, 1, 2, 0], 3), ([0, 1, 2, 3], 3), ([3], 0), ([1, 1], 1),
                          ([0, 1, 10 ** 30], 2)]:
            self.fails(BadOrder, {"at": at}, custom.renamed, names)


if __name__ == "__main__":
    unittest.main()
