"""Drafts: point [11] and the heading fewchairs/drafts.py."""

import unittest

from fewchairs.customs import Custom
from fewchairs.drafts import Draft
from fewchairs.errors import BadCrowd, BadKind, Unfinished
from fewchairs.houses import House
from tests.helpers import SMALL_HOUSES, Case, all_customs

HOUSE = House(2, 2)
NO_MEETINGS = ((1, 1), (2, 2), (-1, 4), (3,), (1, 1, 1), ())


def put_by_item(draft, meeting, kind):
    draft[meeting] = kind


class Drafts(Case):
    def test_a_new_draft_has_no_answers(self):
        draft = Draft(HOUSE)
        self.assertEqual(draft.house, HOUSE)
        self.assertEqual(list(draft), [])
        self.assertEqual(draft.missing(), HOUSE.meetings())
        for meeting in HOUSE.meetings():
            self.assertIsNone(draft[meeting])

    def test_answers_are_set_both_ways(self):
        for put in (put_by_item, Draft.put):
            draft = Draft(HOUSE)
            self.assertIsNone(put(draft, (1, 2), 0))
            self.assertEqual(draft[(1, 2)], 0)
            self.assertIsNone(draft[(2, 1)])
            self.assertEqual(draft.missing(), [(0, 3), (2, 1), (3, 0)])
            put(draft, (1, 2), 1)
            self.assertEqual(draft[(1, 2)], 1)

    def test_wrong_answers(self):
        for put in (put_by_item, Draft.put):
            draft = Draft(HOUSE)
            draft[(1, 2)] = 0
            for meeting in NO_MEETINGS:
                self.fails(BadCrowd, {"crowd": meeting}, put, draft, meeting, 0)
                self.fails(BadCrowd, {"crowd": meeting}, put, draft, meeting, 9)
            for meeting, kind in [((1, 2), 2), ((1, 2), -1), ((0, 3), 0), ((3, 0), 1), ((0, 3), 10 ** 30)]:
                self.fails(BadKind, {"kind": kind}, put, draft, meeting, kind)
            self.assertEqual(list(draft), [(1, 2)])
            self.assertEqual(draft[(1, 2)], 0)
            self.assertEqual(draft.missing(), [(0, 3), (2, 1), (3, 0)])

    def test_reading_and_dropping_what_is_no_meeting(self):
        draft = Draft(House(2, 2, most=(2, 9)))
        draft[(1, 2)] = 0
        for meeting in NO_MEETINGS + ((3, 0),):
            self.fails(BadCrowd, {"crowd": meeting}, lambda: draft[meeting])
            self.fails(BadCrowd, {"crowd": meeting}, draft.drop, meeting)
        self.assertEqual(list(draft), [(1, 2)])

    def test_drop(self):
        draft = Draft(HOUSE)
        draft[(1, 2)] = 0
        draft[(2, 1)] = 1
        self.assertIsNone(draft.drop((1, 2)))
        self.assertIsNone(draft[(1, 2)])
        self.assertEqual(draft[(2, 1)], 1)
        self.assertIsNone(draft.drop((1, 2)))
        self.assertIsNone(draft.drop((3, 0)))
        self.assertEqual(list(draft), [(2, 1)])
        self.assertEqual(draft.missing(), [(0, 3), (1, 2), (3, 0)])

    def test_the_order_in_which_the_answers_came(self):
        draft = Draft(HOUSE)
        draft[(3, 0)] = 0
        draft.put((1, 2), 0)
        draft[(0, 3)] = 1
        self.assertEqual(list(draft), [(3, 0), (1, 2), (0, 3)])
        draft[(1, 2)] = 1
        self.assertEqual(list(draft), [(3, 0), (1, 2), (0, 3)])
        draft.drop((3, 0))
        self.assertEqual(list(draft), [(1, 2), (0, 3)])
        draft[(3, 0)] = 0
        self.assertEqual(list(draft), [(1, 2), (0, 3), (3, 0)])
        self.assertEqual([meeting for meeting in draft], [(1, 2), (0, 3), (3, 0)])

    def test_a_draft_may_be_changed_while_somebody_iterates(self):
        draft = Draft(HOUSE)
        draft[(3, 0)] = 0
        draft[(0, 3)] = 1
        seen = []
        for meeting in draft:
            seen.append(meeting)
            draft.drop(meeting)
            draft[(1, 2)] = 0
        self.assertEqual(seen, [(3, 0), (0, 3)])
        self.assertEqual(list(draft), [(1, 2)])

    def test_a_changed_list_changes_nothing(self):
        draft = Draft(HOUSE)
        draft.missing().clear()
        self.assertEqual(draft.missing(), HOUSE.meetings())

    def test_finished(self):
        for house in SMALL_HOUSES:
            for custom in all_customs(house)[::5]:
                draft = Draft(house)
                for meeting in house.meetings()[::-1]:
                    draft[meeting] = custom(meeting)
                self.assertEqual(draft.missing(), [])
                self.assertEqual(draft.finished(), custom)

    def test_unfinished_names_the_first_meeting_without_an_answer(self):
        draft = Draft(HOUSE)
        self.fails(Unfinished, {"meeting": (0, 3)}, draft.finished)
        draft[(0, 3)] = 1
        draft[(2, 1)] = 1
        self.fails(Unfinished, {"meeting": (1, 2)}, draft.finished)
        draft[(1, 2)] = 1
        self.fails(Unfinished, {"meeting": (3, 0)}, draft.finished)
        draft[(3, 0)] = 0
        self.assertEqual(draft.finished().answers, (1, 1, 1, 0))
        draft.drop((0, 3))
        self.fails(Unfinished, {"meeting": (0, 3)}, draft.finished)

    def test_a_finished_custom_does_not_change_with_the_draft(self):
        draft = Draft(HOUSE)
        for meeting, kind in zip(HOUSE.meetings(), [1, 0, 0, 0]):
            draft[meeting] = kind
        custom = draft.finished()
        draft[(1, 2)] = 1
        self.assertEqual(custom, Custom(HOUSE, [1, 0, 0, 0]))
        self.assertEqual(draft.finished(), Custom(HOUSE, [1, 1, 0, 0]))

    def test_drafts_are_apart(self):
        one, other = Draft(HOUSE), Draft(HOUSE)
        one[(1, 2)] = 0
        self.assertEqual(list(other), [])

    def test_a_house_without_meetings(self):
        house = House.unlike(2, 2)
        self.assertEqual(Draft(house).missing(), [])
        self.assertEqual(Draft(house).finished(), Custom(house, []))


if __name__ == "__main__":
    unittest.main()
