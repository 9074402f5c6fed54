"""Live halls: point [14] and the heading fewchairs/halls.py."""

import itertools
import unittest

from fewchairs.errors import BadKind, NobodyAway, TooManyOf
from fewchairs.halls import BookHall, CountedHall, Hall, LoggedHall
from fewchairs.houses import House
from fewchairs.look import is_free
from fewchairs.makers import fewest_custom, most_custom, order_custom
from fewchairs.runs import steps
from tests.helpers import SMALL_HOUSES, Case, all_customs, all_rows, counted

KINDS_OF_HALLS = [Hall, LoggedHall, CountedHall, BookHall]


def state(hall):
    """All that a hall shows."""
    shown = [hall.came, hall.sitting, hall.away, hall.free]
    if isinstance(hall, LoggedHall):
        shown.append(hall.log)
    if isinstance(hall, CountedHall):
        shown.append(hall.sent)
    return shown


class Halls(Case):
    def test_a_new_hall(self):
        custom = most_custom(House(3, 2))
        for make in KINDS_OF_HALLS:
            hall = make(custom)
            self.assertEqual(hall.custom, custom)
            self.assertEqual(state(hall)[:4], [(0, 0, 0), (0, 0, 0), (0, 0, 0), 2])

    def test_guests_come(self):
        for make in KINDS_OF_HALLS:
            hall = make(most_custom(House(2, 2)))
            self.assertIsNone(hall.come(0))
            self.assertEqual(state(hall)[:4], [(1, 0), (1, 0), (0, 0), 1])
            self.assertIsNone(hall.come(0))
            self.assertEqual(hall.come(1), 0)
            self.assertEqual(state(hall)[:4], [(2, 1), (1, 1), (1, 0), 0])
            self.assertEqual(hall.come(1), 1)
            self.assertEqual(state(hall)[:4], [(2, 2), (1, 1), (1, 1), 0])

    def test_a_hall_is_a_run(self):
        for house in SMALL_HOUSES:
            for custom in all_customs(house)[::11]:
                for row in all_rows(house.most)[::3]:
                    for make in (Hall, BookHall):
                        hall = make(custom)
                        for at, (goes, sits) in enumerate(steps(custom, row)):
                            self.assertEqual(hall.come(row[at]), goes)
                            self.assertEqual(hall.sitting, sits)
                            self.assertEqual(hall.came, counted(row[:at + 1], house.kinds))
                            self.assertEqual(hall.free, house.chairs - sum(sits))
                            both = tuple(a + b for a, b in zip(hall.sitting, hall.away))
                            self.assertEqual(both, hall.came)

    def test_a_guest_comes_again(self):
        for make in KINDS_OF_HALLS:
            hall = make(most_custom(House(2, 2)))
            for kind in (0, 0, 1, 1):
                hall.come(kind)
            self.assertEqual(state(hall)[:4], [(2, 2), (1, 1), (1, 1), 0])
            self.assertEqual(hall.again(0), 0)
            self.assertEqual(hall.again(1), 1)
            self.assertEqual(state(hall)[:4], [(2, 2), (1, 1), (1, 1), 0])

    def test_coming_again_may_change_who_sits(self):
        for make in KINDS_OF_HALLS:
            hall = make(fewest_custom(House(2, 3, most=(2, 3))))
            for kind in (0, 0, 1, 1, 1):
                hall.come(kind)
            self.assertEqual(state(hall)[:4], [(2, 3), (2, 1), (0, 2), 0])
            self.assertEqual(hall.again(1), 1)
            self.assertEqual(hall.again(1), 1)
            self.assertEqual(state(hall)[:4], [(2, 3), (2, 1), (0, 2), 0])
            self.fails(NobodyAway, {"kind": 0}, hall.again, 0)

    def test_coming_again_by_the_words(self):
        for house in (House(2, 2, most=(3, 3)), House(3, 2, most=(2, 2, 1))):
            for custom in all_customs(house)[::5]:
                for row in all_rows(house.most)[::4]:
                    hall = BookHall(custom)
                    for kind in row:
                        hall.come(kind)
                    for kind in range(house.kinds):
                        if hall.away[kind]:
                            standing = list(hall.sitting)
                            standing[kind] += 1
                            goes = custom(tuple(standing))
                            standing[goes] -= 1
                            self.assertEqual(hall.again(kind), goes)
                            self.assertEqual(hall.sitting, tuple(standing))
                            self.assertEqual(hall.came, house.most)

    def test_no_such_kind(self):
        for make in KINDS_OF_HALLS:
            hall = make(most_custom(House(2, 1, most=(2, 2))))
            hall.come(0)
            hall.come(1)
            before = state(hall)
            for kind in (2, -1, 10 ** 30):
                self.fails(BadKind, {"kind": kind}, hall.come, kind)
                self.fails(BadKind, {"kind": kind}, hall.again, kind)
            self.assertEqual(state(hall), before)

    def test_too_many_guests(self):
        for make in KINDS_OF_HALLS:
            hall = make(order_custom(House(2, 1, most=(1, 2)), [1, 0]))
            hall.come(0)
            hall.come(1)
            before = state(hall)
            self.assertEqual(before[:4], [(1, 1), (0, 1), (1, 0), 0])
            self.fails(TooManyOf, {"kind": 0}, hall.come, 0)
            self.assertEqual(state(hall), before)
            self.assertEqual(hall.come(1), 1)

    def test_nobody_away(self):
        for make in KINDS_OF_HALLS:
            hall = make(order_custom(House(2, 1), [1, 0]))
            self.fails(NobodyAway, {"kind": 0}, hall.again, 0)
            hall.come(0)
            self.fails(NobodyAway, {"kind": 0}, hall.again, 0)
            hall.come(1)
            before = state(hall)
            self.fails(NobodyAway, {"kind": 1}, hall.again, 1)
            self.assertEqual(state(hall), before)
            self.assertEqual(hall.again(0), 0)

    def test_coming_again_does_not_count_as_coming(self):
        for make in KINDS_OF_HALLS:
            hall = make(order_custom(House.unlike(2, 1), [1, 0]))
            hall.come(0)
            hall.come(1)
            for _ in range(5):
                self.assertEqual(hall.again(0), 0)
            self.assertEqual(hall.came, (1, 1))

    def test_halls_are_apart(self):
        custom = most_custom(House(2, 2))
        for make in KINDS_OF_HALLS:
            one, other = make(custom), make(custom)
            before = state(other)
            one.come(0)
            self.assertEqual(state(other), before)


class Logs(Case):
    def test_the_log(self):
        for make in (LoggedHall, BookHall):
            hall = make(most_custom(House(2, 1, most=(2, 1))))
            self.assertEqual(hall.log, [])
            hall.come(0)
            hall.come(1)
            for call, kind in ((hall.come, 1), (hall.come, 5), (hall.again, 0), (hall.again, -1)):
                with self.assertRaises((TooManyOf, BadKind, NobodyAway)):
                    call(kind)
            hall.again(1)
            hall.come(0)
            self.assertEqual(hall.log, [("come", 0, None), ("come", 1, 1), ("again", 1, 1), ("come", 0, 0)])

    def test_a_changed_log_changes_nothing(self):
        for make in (LoggedHall, BookHall):
            hall = make(most_custom(House(2, 1)))
            hall.come(1)
            hall.log.append("more")
            self.assertEqual(hall.log, [("come", 1, None)])
            kept = hall.log
            hall.come(0)
            self.assertEqual(kept, [("come", 1, None)])
            self.assertEqual(hall.log, [("come", 1, None), ("come", 0, 1)])


class Counts(Case):
    def test_the_counts(self):
        for make in (CountedHall, BookHall):
            hall = make(order_custom(House(3, 1, most=(2, 1, 1)), [2, 1, 0]))
            self.assertEqual(hall.sent, (0, 0, 0))
            hall.come(1)
            self.assertEqual(hall.sent, (0, 0, 0))
            hall.come(0)
            self.assertEqual(hall.sent, (1, 0, 0))
            hall.come(2)
            self.assertEqual(hall.sent, (1, 1, 0))
            hall.again(0)
            hall.again(1)
            hall.again(1)
            self.assertEqual(hall.sent, (2, 3, 0))
            self.fails(NobodyAway, {"kind": 2}, hall.again, 2)
            self.fails(TooManyOf, {"kind": 1}, hall.come, 1)
            self.assertEqual(hall.sent, (2, 3, 0))

    def test_log_and_counts_say_the_same(self):
        for house in (House(2, 2, most=(3, 3)), House(3, 2, most=(2, 2, 1))):
            for custom in all_customs(house)[::5]:
                hall = BookHall(custom)
                for kind in all_rows(house.most)[-1]:
                    hall.come(kind)
                for kind in range(house.kinds):
                    if hall.away[kind]:
                        hall.again(kind)
                gone = [goes for _, _, goes in hall.log if goes is not None]
                self.assertEqual(hall.sent, counted(gone, house.kinds))


class OrderFreeHalls(Case):
    def test_guests_who_come_again_change_nothing(self):
        for house in SMALL_HOUSES:
            for custom in all_customs(house):
                if is_free(custom):
                    for row in all_rows(house.most)[::5]:
                        hall = Hall(custom)
                        for kind in row:
                            hall.come(kind)
                        for kind in range(house.kinds):
                            if hall.away[kind]:
                                before = hall.sitting
                                self.assertEqual(hall.again(kind), kind)
                                self.assertEqual(hall.sitting, before)

    def test_all_ways_to_come_and_come_again(self):
        custom = fewest_custom(House(2, 1, most=(2, 2)))
        for word in itertools.product((0, 1), repeat=6):
            hall = BookHall(custom)
            events = 0
            for kind in word:
                if hall.came[kind] < 2:
                    hall.come(kind)
                    events += 1
                elif hall.away[kind]:
                    hall.again(kind)
                    events += 1
            self.assertEqual(len(hall.log), events)
            self.assertEqual(sum(hall.sent), events - 1)


if __name__ == "__main__":
    unittest.main()
