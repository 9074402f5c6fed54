"""The waiting room: point [59] and the heading fewchairs/waiting.py."""

import random
import unittest

from fewchairs.chains import Chain
from fewchairs.errors import BadKind, NobodyThere, NoChair, TooManyOf
from fewchairs.houses import House
from fewchairs.waiting import WaitingRoom
from tests.helpers import MANY, Case, all_crowds, counted, order_rule, plainly_nested, row_chain, rule_rows

CHAINS = [Chain(rules) for rules in rule_rows((2, 2), 2) + rule_rows((2, 3), 3, 3) + rule_rows((1, 1, 1), 3)
          if plainly_nested(rules)]


def state(room):
    return (room.there, room.sitting, room.waiting, room.seats)


class PlainRoom:
    """The words of [59], with lists of guests."""

    def __init__(self, chain, seats):
        self.chain, self.seats, self.sitting, self.waiting = chain, seats, [], []

    def goes(self, guests):
        return self.chain[self.seats].custom(counted(guests, self.chain[1].house.kinds))

    def line(self):
        return self.chain.line(counted(self.sitting + self.waiting, self.chain[1].house.kinds))

    def come(self, kind):
        if len(self.sitting) < self.seats:
            self.sitting.append(kind)
            return (kind, None)
        goes = self.goes(self.sitting + [kind])
        self.sitting.append(kind)
        self.sitting.remove(goes)
        self.waiting.append(goes)
        return (None, None) if goes == kind else (kind, goes)

    def leave(self, kind):
        if kind in self.waiting:
            self.waiting.remove(kind)
            return (None, None)
        self.sitting.remove(kind)
        if not self.waiting:
            return (None, None)
        found = [x for x in sorted(set(self.waiting))
                 if all(self.goes(self.sitting + [x, y]) == y for y in set(self.waiting) if y != x)]
        assert len(found) == 1, found
        self.waiting.remove(found[0])
        self.sitting.append(found[0])
        return (found[0], None)

    def add_chair(self):
        self.seats += 1
        if not self.waiting:
            return (None, None)
        kind = self.line()[self.seats - 1]
        self.waiting.remove(kind)
        self.sitting.append(kind)
        return (kind, None)

    def remove_chair(self):
        full = len(self.sitting) == self.seats
        self.seats -= 1
        if not full:
            return (None, None)
        kind = self.line()[self.seats]
        self.sitting.remove(kind)
        self.waiting.append(kind)
        return (None, kind)


def both_do(case, room, plain, word, *told):
    """Lets both rooms do the same and compares them."""
    case.assertEqual(getattr(room, word)(*told), getattr(plain, word)(*told))
    kinds = len(room.there)
    sitting, waiting = counted(plain.sitting, kinds), counted(plain.waiting, kinds)
    there = tuple(a + b for a, b in zip(sitting, waiting))
    case.assertEqual(state(room), (there, sitting, waiting, plain.seats))
    case.assertEqual(room.sitting, room.chain[room.seats].end(room.there))


def possible_events(room):
    kinds, most = len(room.there), room.chain[1].house.most
    events = [("come", kind) for kind in range(kinds) if room.there[kind] < most[kind]]
    events += [("leave", kind) for kind in range(kinds) if room.there[kind] > 0]
    events += [("add_chair",)] * (room.seats < room.chain.most_chairs)
    return events + [("remove_chair",)] * (room.seats > 1)


class Rooms(Case):
    def test_a_new_room(self):
        chain = Chain(row_chain(3, 3))
        room = WaitingRoom(chain)
        self.assertIs(room.chain, chain)
        self.assertEqual(state(room), ((0, 0, 0), (0, 0, 0), (0, 0, 0), 1))
        self.assertEqual(WaitingRoom(chain, seats=3).seats, 3)

    def test_some_events(self):
        chain = Chain([order_rule(House(2, chairs), [1, 0]) for chairs in (1, 2, 3)])
        room = WaitingRoom(chain, seats=2)
        self.assertEqual(room.come(0), (0, None))
        self.assertEqual(room.come(0), (0, None))
        self.assertEqual(room.come(0), (None, None))
        self.assertEqual(room.come(1), (1, 0))
        self.assertEqual(state(room), ((3, 1), (1, 1), (2, 0), 2))
        self.assertEqual(room.leave(0), (None, None))
        self.assertEqual(room.leave(1), (0, None))
        self.assertEqual(state(room), ((2, 0), (2, 0), (0, 0), 2))
        self.assertEqual(room.add_chair(), (None, None))
        self.assertEqual(room.remove_chair(), (None, None))
        self.assertEqual(room.remove_chair(), (None, 0))
        self.assertEqual(state(room), ((2, 0), (1, 0), (1, 0), 1))
        self.assertEqual(room.come(1), (1, 0))
        self.assertEqual(room.add_chair(), (0, None))
        self.assertEqual(room.leave(0), (None, None))
        self.assertEqual(room.leave(0), (None, None))
        self.assertEqual(room.leave(1), (None, None))
        self.assertEqual(state(room), ((0, 0), (0, 0), (0, 0), 2))

    def test_every_history_that_leads_somewhere_new(self):
        for chain in CHAINS[::3]:
            seen, waiting = set(), [()]
            while waiting:
                events = waiting.pop()
                room, plain = WaitingRoom(chain), PlainRoom(chain, 1)
                for event in events:
                    both_do(self, room, plain, *event)
                if state(room) not in seen:
                    seen.add(state(room))
                    waiting += [events + (event,) for event in possible_events(room)]
            # Where a history leads to is known by who is there and the number of chairs.
            crowds = all_crowds(chain[1].house.most)
            self.assertEqual(len(seen), len(crowds) * chain.most_chairs)

    def test_long_histories(self):
        chance = random.Random(59)
        for rules in [row_chain(3, 4), row_chain(6, 5), row_chain(2, 3, most=(5, 5)), row_chain(4, 1)]:
            chain = Chain(rules)
            room, plain = WaitingRoom(chain), PlainRoom(chain, 1)
            for _ in range(300):
                both_do(self, room, plain, *chance.choice(possible_events(room)))

    def test_two_histories_to_the_same_crowd(self):
        chain = Chain(row_chain(3, 3))
        one, other = WaitingRoom(chain), WaitingRoom(chain, seats=3)
        for kind in (0, 1, 1, 2, 2, 0):
            one.come(kind)
        for kind in (2, 0, 1, 0, 0, 2, 1):
            other.come(kind)
        other.leave(0)
        other.remove_chair()
        one.add_chair()
        self.assertEqual(state(one), state(other))


class Seats(Case):
    def room(self):
        room = WaitingRoom(Chain(row_chain(3, 4)), seats=2)
        for kind in (0, 2, 2, 1, 0, 1):
            room.come(kind)
        return room

    def test_set_seats(self):
        for number in (1, 2, 3, 4):
            room, other = self.room(), self.room()
            moves = []
            while other.seats < number:
                moves.append(other.add_chair())
            while other.seats > number:
                moves.append(other.remove_chair())
            self.assertEqual(room.set_seats(number), moves)
            self.assertEqual(len(moves), abs(number - 2))
            self.assertEqual(state(room), state(other))

    def test_the_assignment(self):
        for number in (1, 2, 3, 4):
            room, other = self.room(), self.room()
            room.seats = number
            other.set_seats(number)
            self.assertEqual(state(room), state(other))
            self.assertEqual(room.seats, number)
        room.seats -= 1
        self.assertEqual(room.seats, 3)

    def test_wrong_numbers(self):
        chain = Chain(row_chain(3, 4))
        for number in (0, -1, 5, 6, MANY, -MANY):
            self.fails(NoChair, {"chairs": number}, WaitingRoom, chain, seats=number)
            room = self.room()
            before = state(room)
            self.fails(NoChair, {"chairs": number}, room.set_seats, number)
            self.fails(NoChair, {"chairs": number}, setattr, room, "seats", number)
            self.assertEqual(state(room), before)

    def test_no_further_chair(self):
        room = self.room()
        room.seats = 4
        before = state(room)
        self.fails(NoChair, {"chairs": 5}, room.add_chair)
        self.assertEqual(state(room), before)
        room.seats = 1
        before = state(room)
        self.fails(NoChair, {"chairs": 0}, room.remove_chair)
        self.assertEqual(state(room), before)
        one = WaitingRoom(Chain(row_chain(2, 1)))
        self.fails(NoChair, {"chairs": 2}, one.add_chair)
        self.fails(NoChair, {"chairs": 0}, one.remove_chair)
        self.assertEqual(one.set_seats(1), [])

    def test_an_empty_room(self):
        room = WaitingRoom(Chain(row_chain(2, 3)))
        self.assertEqual(room.set_seats(3), [(None, None), (None, None)])
        self.assertEqual(room.set_seats(1), [(None, None), (None, None)])
        self.assertEqual(room.set_seats(1), [])
        room.set_seats(2).append(1)
        self.assertEqual(room.set_seats(2), [])


class Wrong(Case):
    def test_wrong_guests(self):
        room = WaitingRoom(Chain(row_chain(2, 2, most=(2, 1))))
        for kind in (-1, 2, MANY, -MANY):
            self.fails(BadKind, {"kind": kind}, room.come, kind)
            self.fails(BadKind, {"kind": kind}, room.leave, kind)
        self.fails(NobodyThere, {"kind": 0}, room.leave, 0)
        room.come(0)
        room.come(0)
        before = state(room)
        self.fails(TooManyOf, {"kind": 0}, room.come, 0)
        self.fails(NobodyThere, {"kind": 1}, room.leave, 1)
        self.assertEqual(state(room), before)
        room.leave(0)
        self.assertEqual(room.come(0), (None, None))

    def test_the_most_counts_those_who_are_there(self):
        room = WaitingRoom(Chain(row_chain(2, 2, most=(1, 1))))
        for _ in range(5):
            room.come(1)
            self.fails(TooManyOf, {"kind": 1}, room.come, 1)
            room.leave(1)
        self.assertEqual(room.there, (0, 0))

    def test_two_rooms_are_two(self):
        chain = Chain(row_chain(2, 2))
        one, other = WaitingRoom(chain), WaitingRoom(chain)
        one.come(0)
        one.seats = 2
        self.assertEqual(state(other), ((0, 0), (0, 0), (0, 0), 1))


if __name__ == "__main__":
    unittest.main()
