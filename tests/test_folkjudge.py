"""The judge of folk: points [62], [63] and the heading fewchairs/folkjudge.py."""

import itertools
import unittest

from fewchairs.crowds import kinds_in
from fewchairs.customs import Custom
from fewchairs.errors import BadKind, NotFree, TooManyOf
from fewchairs.folkjudge import folk_end, folk_holds, folk_judge
from fewchairs.folks import Folk
from fewchairs.houses import House
from fewchairs.look import is_free
from fewchairs.makers import order_custom
from tests.helpers import MANY, Case, all_folk, plain_parting

SOME = all_folk(3, 1) + all_folk(4, 2) + all_folk(4, 1)[::3] + all_folk(4, 3) + all_folk(2, 1) + all_folk(2, 2)


def group_rows(group):
    """The rows for all people of the group, least people first."""
    return [[other for other in kinds_in(group) if other != person] + [person] for person in kinds_in(group)]


def plain_judge(folk):
    """The certificate by the words of [63]."""
    pairs = []
    for group in folk.custom.house.groups():
        partings = [plain_parting(folk, row) for row in group_rows(group)]
        for row, parting in zip(group_rows(group), partings):
            if parting != partings[0]:
                return ("bound", group, group_rows(group)[0], row, partings[0], parting)
        pairs.append((group, partings[0]))
    return ("free", pairs)


def plainly_free(folk):
    """Whether all rows of each crowd lead to the same parting."""
    people = folk.custom.house.kinds
    for number in range(people + 1):
        for crowd in itertools.combinations(range(people), number):
            partings = [plain_parting(folk, row) for row in itertools.permutations(crowd)]
            if partings.count(partings[0]) != len(partings):
                return False
    return True


FREE = [folk for folk in SOME if plain_judge(folk)[0] == "free"]
BOUND = [folk for folk in SOME if plain_judge(folk)[0] == "bound"]


class Judging(Case):
    def test_the_certificate(self):
        for folk in SOME:
            certificate = folk_judge(folk)
            self.assertEqual(certificate, plain_judge(folk))
            self.assertIs(folk_holds(folk, certificate), True)
        self.assertGreater(min(len(FREE), len(BOUND)), 20)

    def test_order_free_exactly_if_the_groups_are(self):
        for folk in SOME:
            self.assertEqual(folk_judge(folk)[0] == "free", plainly_free(folk))

    def test_the_custom_of_order_free_folk(self):
        for folk in FREE:
            self.assertTrue(is_free(folk.custom))

    def test_folk_whose_custom_is_free_may_be_bound(self):
        self.assertTrue(any([is_free(folk.custom) for folk in BOUND]))
        self.assertTrue(any([not is_free(folk.custom) for folk in BOUND]))

    def test_no_groups(self):
        for people, chairs in [(2, 1), (3, 2), (1, 1), (4, 5)]:
            for folk in all_folk(people, chairs):
                self.assertEqual(folk_judge(folk), ("free", []))

    def test_kinds_of_values(self):
        word, pairs = folk_judge(FREE[0])
        self.assertIsInstance(pairs, list)
        self.assertIsInstance(pairs[0][1], list)
        self.assertIsInstance(pairs[0][1][0][1], tuple)
        certificate = folk_judge(BOUND[0])
        self.assertIsInstance(certificate, tuple)
        self.assertEqual([type(part) for part in certificate], [str, tuple, list, list, list, list])

    def test_a_changed_result_changes_nothing(self):
        for folk in (FREE[0], BOUND[0]):
            folk_judge(folk)[-1].clear()
            self.assertEqual(folk_judge(folk), plain_judge(folk))


class Holding(Case):
    def test_every_certificate_of_two_rows(self):
        for folk in SOME[::29]:
            people = folk.custom.house.kinds
            for first, second in itertools.product(itertools.permutations(range(people)), repeat=2):
                ends = [plain_parting(folk, row) for row in (first, second)]
                certificate = ("bound", (1,) * people, list(first), list(second), *ends)
                self.assertIs(folk_holds(folk, certificate), ends[0] != ends[1])

    def test_lesser_crowds(self):
        folk = [folk for folk in BOUND if folk.custom.house.kinds == 4 and folk.custom.house.chairs == 1][0]
        for certificate in [folk_judge(folk)]:
            self.assertLess(sum(certificate[1]), 4)
            self.assertIs(folk_holds(folk, certificate), True)

    def test_wrong_parts_of_the_second_form(self):
        for folk in BOUND[::9]:
            word, crowd, first, second, one, other = folk_judge(folk)
            people = len(crowd)
            for wrong in [(word, crowd, first, second, other, one), (word, crowd, second, first, one, other),
                          (word, crowd, first, first, one, one), (word, crowd, first, first, one, other),
                          (word, crowd, second, second, one, other), (word, crowd, first, second, one, one),
                          (word, crowd[:-1], first, second, one, other), (word, (), first, second, one, other),
                          (word, crowd + (0,), first, second, one, other), (word, (0,) * people, [], [], one, other),
                          (word, (2,) + crowd[1:], first, second, one, other),
                          (word, (-1,) + crowd[1:], first, second, one, other),
                          (word, tuple(1 - count for count in crowd), first, second, one, other),
                          (word, crowd, first + first, second, one, other), (word, crowd, first, [], one, other),
                          (word, crowd, first[1:], second, one, other), (word, crowd, first, second[:-1], one, other),
                          (word, crowd, [-1] + first[1:], second, one, other),
                          (word, crowd, first, second[1:] + [MANY], one, other),
                          (word, crowd, first, [second[0]] * len(second), one, other),
                          (word, crowd, first, second, [], other), (word, crowd, first, second, one, other + one),
                          (word, crowd, first, second, one, other[1:]), (word, crowd, first, second, [(-1, (5,))], other),
                          (word, crowd, first, second, one, [(head, group + (9,)) for head, group in other])]:
                self.assertIs(folk_holds(folk, wrong), False, wrong)

    def test_wrong_parts_of_the_first_form(self):
        for folk in FREE[::9]:
            pairs = folk_judge(folk)[1]
            for wrong in [pairs[:-1], pairs[1:], pairs + pairs, [], [(group, []) for group, _ in pairs],
                          [((0,) * len(group), parting) for group, parting in pairs],
                          [(group[1:], parting) for group, parting in pairs],
                          [(group, parting[::-1]) for group, parting in pairs],
                          [(group, [(head, people[1:]) for head, people in parting]) for group, parting in pairs],
                          [(group, [(head - 9, people) for head, people in parting]) for group, parting in pairs],
                          [(group, parting, parting) for group, parting in pairs], [()], [(1,), ()]]:
                if wrong != pairs:
                    self.assertIs(folk_holds(folk, ("free", wrong)), False, wrong)

    def test_no_free_certificate_for_bound_folk(self):
        for folk in BOUND[::5]:
            pairs = [(group, plain_parting(folk, group_rows(group)[0])) for group in folk.custom.house.groups()]
            self.assertIs(folk_holds(folk, ("free", pairs)), False)
            self.assertIs(folk_holds(folk, ("free", [])), False)

    def test_several_groups(self):
        folk = [folk for folk in FREE if len(folk.custom.house.groups()) > 1][0]
        pairs = folk_judge(folk)[1]
        self.assertIs(folk_holds(folk, ("free", pairs)), True)
        self.assertIs(folk_holds(folk, ("free", pairs[::-1])), False)
        self.assertIs(folk_holds(folk, ("free", [pairs[0]] * len(pairs))), False)

    def test_tuples_of_other_forms(self):
        free, bound = folk_judge(FREE[0]), folk_judge(BOUND[0])
        for folk in (FREE[0], BOUND[0]):
            for wrong in [(), ("free",), ("bound",), free + free[1:], bound[:-1], bound + bound[-1:], bound[:2],
                          ("free",) + bound[1:], ("bound",) + free[1:], ("none", free[1]), ("none",) + bound[1:]]:
                self.assertIs(folk_holds(folk, wrong), False, wrong)

    def test_the_certificate_stays(self):
        certificate = folk_judge(BOUND[3])
        kept = repr(certificate)
        folk_holds(BOUND[3], certificate)
        self.assertEqual(repr(certificate), kept)


class Ends(Case):
    def test_all_rows(self):
        for folk in FREE[::3]:
            people = folk.custom.house.kinds
            for number in range(people + 1):
                for row in itertools.permutations(range(people), number):
                    self.assertEqual(folk_end(folk, list(row)), plain_parting(folk, sorted(row)))

    def test_folk_that_are_not_order_free(self):
        for folk in BOUND[::5]:
            group = plain_judge(folk)[1]
            for people in [[], [0], [1, 0], [0, 0], [9]]:
                self.fails(NotFree, {"group": group}, folk_end, folk, people)

    def test_wrong_people(self):
        folk = FREE[0]
        self.fails(TooManyOf, {"kind": 1}, folk_end, folk, [0, 1, 1])
        for kind in (-1, folk.custom.house.kinds, MANY):
            self.fails(BadKind, {"kind": kind}, folk_end, folk, [0, kind])

    def test_the_first_group(self):
        house = House.unlike(5, 2)
        custom = order_custom(house, [0, 1, 2, 3, 4])
        for at in range(10):
            joins = []
            for place, meeting in enumerate(house.meetings()):
                staying = [person for person in kinds_in(meeting) if person != custom(meeting)]
                joins.append(staying[place == at])
            folk = Folk(custom, joins)
            self.assertEqual(folk_judge(folk), plain_judge(folk))
            if plain_judge(folk)[0] == "bound":
                self.fails(NotFree, {"group": plain_judge(folk)[1]}, folk_end, folk, [0])
        self.assertTrue(is_free(Custom(house, custom.answers)))


if __name__ == "__main__":
    unittest.main()
