"""Certificates and the judge: points [17] and [18] and the heading fewchairs/judge.py."""

import copy
import unittest

from fewchairs.customs import Custom
from fewchairs.houses import House
from fewchairs.judge import holds, judge
from fewchairs.look import first_fault, given_up
from fewchairs.makers import fewest_custom, order_custom
from fewchairs.rules import Rule
from tests.helpers import (MANY, SMALL_HOUSES, Case, all_crowds, all_customs, all_rows, crowds_of_size,
                           plain_ends, plain_left, plainly_free)

FEWEST = fewest_custom(House(2, 2))
BOUND = ("bound", (2, 2), [0, 1, 1, 0], [0, 0, 1, 1], (0, 2), (2, 0))
ORDER = order_custom(House(2, 1), [0, 1])
FREE = ("free", [((0, 3), (0, 2)), ((1, 2), (0, 2)), ((2, 1), (1, 1)), ((3, 0), (2, 0))])


def changed(certificate, at, worth):
    return certificate[:at] + (worth,) + certificate[at + 1:]


class Judge(Case):
    def test_example(self):
        self.assertEqual(judge(FEWEST), BOUND)

    def test_first_form_written_out(self):
        self.assertEqual(judge(ORDER), FREE)
        self.assertEqual(judge(Custom(House.unlike(3, 2), [1])), ("free", []))

    def test_the_certificate_by_its_words(self):
        for house in SMALL_HOUSES:
            for custom in all_customs(house):
                certificate = judge(custom)
                group = first_fault(custom)
                if group is None:
                    looks = [(g, given_up(custom, g)) for g in crowds_of_size(house, house.chairs + 2)]
                    self.assertEqual(certificate, ("free", looks))
                    continue
                rows = []
                for kind in range(house.kinds):
                    if group[kind]:
                        row = [x for x in range(house.kinds) for _ in range(group[x])]
                        row.remove(kind)
                        rows.append(row + [kind])
                ends = [plain_left(custom, row) for row in rows]
                second = next(at for at in range(len(rows)) if ends[at] != ends[0])
                self.assertEqual(certificate, ("bound", group, rows[0], rows[second], ends[0], ends[second]))

    def test_the_second_row_need_not_be_that_of_the_next_kind(self):
        found = set()
        for house in (House(3, 1), House(3, 2), House.unlike(4, 2)):
            for custom in all_customs(house):
                certificate = judge(custom)
                if certificate[0] == "bound":
                    found.add((certificate[2][-1], certificate[3][-1]))
        self.assertIn((0, 2), found)
        self.assertIn((0, 1), found)

    def test_what_the_judge_says_holds(self):
        for house in SMALL_HOUSES:
            for custom in all_customs(house):
                certificate = judge(custom)
                self.assertEqual(certificate[0] == "free", plainly_free(custom))
                self.assertIs(holds(custom, certificate), True)

    def test_small_crowds_have_no_two_ends(self):
        for house in SMALL_HOUSES:
            for custom in all_customs(house)[::5]:
                for crowd in all_crowds(house.most):
                    if sum(crowd) < house.chairs + 2:
                        self.assertEqual(len(plain_ends(custom, crowd)), 1)

    def test_the_kinds_of_values(self):
        certificate = judge(FEWEST)
        self.assertEqual([type(x) for x in certificate], [str, tuple, list, list, tuple, tuple])
        self.assertEqual([type(x) for x in judge(ORDER)], [str, list])
        self.assertEqual({type(x) for pair in judge(ORDER)[1] for x in (pair,) + pair}, {tuple})

    def test_a_changed_certificate_changes_nothing(self):
        certificate = judge(FEWEST)
        certificate[2].clear()
        self.assertEqual(judge(FEWEST), BOUND)
        judge(ORDER)[1].clear()
        self.assertEqual(judge(ORDER), FREE)

    def test_the_greatest_house(self):
        house = House(6, 5)
        custom = order_custom(house, [5, 0, 4, 1, 3, 2])
        certificate = judge(custom)
        self.assertEqual(len(certificate[1]), 792)
        self.assertTrue(holds(custom, certificate))
        self.assertTrue(holds(fewest_custom(house), judge(fewest_custom(house))))
        self.assertEqual(Rule(custom).sure, (0, 0, 0, 0, 0, 5))


class FirstForm(Case):
    def test_holds(self):
        self.assertIs(holds(ORDER, FREE), True)
        self.assertIs(holds(ORDER, copy.deepcopy(FREE)), True)

    def test_wrong_lists(self):
        looks = FREE[1]
        for wrong in (
            [], looks[:3], looks[1:], looks + looks[:1], looks[::-1], looks + [()],
            [((0, 3), (0, 2)), ((1, 2), (1, 1)), ((2, 1), (1, 1)), ((3, 0), (2, 0))],
            [((0, 3), (0, 2)), ((1, 2), (0, 2)), ((2, 1), (1, 1)), ((3, 0), (2, 0, 0))],
            [((0, 3), (0, 2)), ((1, 2), (0, 2)), ((2, 1), (1, 1)), ((3,), (2, 0))],
            [((0, 3), (0, 2)), ((1, 2), (0, 2)), ((2, 1), (1, 1)), ((3, 0),)],
            [((0, 3), (0, 2)), ((1, 2), (0, 2)), ((2, 1), (1, 1)), ((3, 0), (2, 0), (2, 0))],
            [((0, 3), (0, 2)), ((1, 2), (0, 2)), ((2, 1), (-1, 3)), ((3, 0), (2, 0))],
            [((0, MANY), (0, 2)), ((1, 2), (0, 2)), ((2, 1), (1, 1)), ((3, 0), (10 ** 40, 0))],
            [()] * 4, [((), ())] * 4, looks * 1000,
        ):
            self.assertIs(holds(ORDER, ("free", wrong)), False)

    def test_a_custom_that_is_not_order_free_has_no_such_certificate(self):
        house = House(2, 2)
        looks = [(group, given_up(FEWEST, group)) for group in house.groups()]
        self.assertIs(holds(FEWEST, ("free", looks)), False)
        twos = [(group, (1, 1)) for group in house.groups()]
        self.assertIs(holds(FEWEST, ("free", twos)), False)
        self.assertIs(holds(FEWEST, ("free", [])), False)

    def test_houses_without_groups(self):
        custom = Custom(House.unlike(3, 2), [1])
        self.assertIs(holds(custom, ("free", [])), True)
        self.assertIs(holds(custom, ("free", [((1, 1, 1), (0, 1, 1))])), False)

    def test_another_custom_has_another_certificate(self):
        other = order_custom(House(2, 1), [1, 0])
        self.assertIs(holds(other, FREE), False)
        self.assertIs(holds(other, judge(other)), True)


class SecondForm(Case):
    def test_holds(self):
        self.assertIs(holds(FEWEST, BOUND), True)
        swapped = ("bound", (2, 2), BOUND[3], BOUND[2], BOUND[5], BOUND[4])
        self.assertIs(holds(FEWEST, swapped), True)

    def test_crowds_of_any_size(self):
        self.assertTrue(holds(FEWEST, ("bound", (2, 3), [0, 1, 1, 0, 1], [0, 0, 1, 1, 1], (0, 2), (2, 0))))
        row = [0, 1, 1, 0] + [1] * 40
        other = [0, 0, 1, 1] + [1] * 40
        self.assertTrue(holds(FEWEST, ("bound", (2, 42), row, other, (0, 2), (2, 0))))

    def test_every_true_certificate_of_a_crowd_holds_and_no_other(self):
        for custom in (FEWEST, Custom(House.unlike(4, 2), [3, 3, 0, 1])):
            crowd = (2, 2) if custom == FEWEST else (1, 1, 1, 1)
            ends = list(plain_ends(custom, crowd))
            for first in all_rows(crowd):
                for second in all_rows(crowd):
                    for end in ends:
                        for other in ends:
                            true = (plain_left(custom, first) == end and end != other
                                    and plain_left(custom, second) == other)
                            certificate = ("bound", crowd, first, second, end, other)
                            self.assertIs(holds(custom, certificate), true)

    def test_wrong_crowds(self):
        for crowd in ((2, 3), (1, 2), (0, 0), (4, 0), (2,), (2, 2, 0), (), (-2, 2), (2, -2), (MANY, MANY),
                      (2, 2 + 10 ** 40), (2,) * 1000):
            self.assertIs(holds(FEWEST, changed(BOUND, 1, crowd)), False)

    def test_wrong_rows(self):
        for at in (2, 3):
            for row in ([], [0, 1, 1], [0, 1, 1, 0, 0], [0, 1, 1, 1], [0, 1, 1, 2], [0, 1, 1, -1],
                        [0, 1, 1, 0, 5], [-1, -2, -1, -2], [10 ** 40] * 4, [0, 1, 1, 0] * 3000):
                self.assertIs(holds(FEWEST, changed(BOUND, at, row)), False)

    def test_wrong_ends(self):
        for at in (4, 5):
            for end in ((1, 1), (0,), (0, 2, 0), (), (-1, 3), (2, 2), (10 ** 40, 0), (0, 2) * 500):
                self.assertIs(holds(FEWEST, changed(BOUND, at, end)), False)

    def test_the_ends_must_differ(self):
        same = ("bound", (2, 2), BOUND[2], BOUND[2], (0, 2), (0, 2))
        self.assertIs(holds(FEWEST, same), False)
        self.assertIs(holds(FEWEST, ("bound", (2, 2), BOUND[2], BOUND[3], (2, 0), (0, 2))), False)

    def test_a_crowd_beyond_the_most(self):
        custom = fewest_custom(House(2, 2, most=(2, 2)))
        self.assertIs(holds(custom, BOUND), True)
        beyond = ("bound", (2, 3), [0, 1, 1, 0, 1], [0, 0, 1, 1, 1], (0, 2), (2, 0))
        self.assertIs(holds(custom, beyond), False)

    def test_an_order_free_custom_has_no_such_certificate(self):
        self.assertIs(holds(ORDER, ("bound", (1, 2), [0, 1, 1], [1, 1, 0], (1, 0), (0, 1))), False)
        self.assertIs(holds(ORDER, ("bound", (0, 0), [], [], (0, 0), (0, 0))), False)

    def test_rows_that_would_raise_errors_only_do_not_hold(self):
        custom = order_custom(House.unlike(2, 1), [0, 1])
        self.assertIs(holds(custom, ("bound", (1, 1), [0, 0], [1, 0], (1, 0), (0, 1))), False)
        self.assertIs(holds(custom, ("bound", (2, 0), [0, 0], [0, 0], (1, 0), (0, 1))), False)

    def test_nothing_is_changed(self):
        certificate = copy.deepcopy(BOUND)
        holds(FEWEST, certificate)
        self.assertEqual(certificate, BOUND)
        free = copy.deepcopy(FREE)
        holds(ORDER, free)
        self.assertEqual(free, FREE)


class OtherLengths(Case):
    def test_tuples_of_other_lengths_do_not_hold(self):
        for certificate in (("free",), ("bound",), ("free", FREE[1], []), ("free",) + BOUND[1:], BOUND[:5],
                            BOUND + ((2, 0),), ("bound", FREE[1]), ()):
            self.assertIs(holds(ORDER, certificate), False)
            self.assertIs(holds(FEWEST, certificate), False)


if __name__ == "__main__":
    unittest.main()
