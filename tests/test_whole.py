"""Points [2] to [4] over the whole program: what every function and every method of the interface keeps to."""

import types
import unittest

from fewchairs import errors
from fewchairs.asks import Asker
from fewchairs.between import crowd_with, one_end, range_of
from fewchairs.calm import trouble
from fewchairs.cardnumbers import cards_at, count_cards, number_of_cards
from fewchairs.cardparts import three_parting
from fewchairs.cards import Cards
from fewchairs.cardtables import cards_of, custom_of_cards
from fewchairs.chains import Chain, chain_fault
from fewchairs.compare import never_fewer, not_inside
from fewchairs.crossed import least_changes
from fewchairs.crowds import (crowd_of, greater, kinds_in, lesser, minus, parts, plus, row_of, size, within)
from fewchairs.customnumbers import count_customs, custom_at, number_of
from fewchairs.customs import Custom
from fewchairs.desk import Desk
from fewchairs.drafts import Draft
from fewchairs.ends import chance, ends, row_to, surely
from fewchairs.extras import chain_of, joined
from fewchairs.facts import Facts
from fewchairs.floors import floor, floor_meeting
from fewchairs.folkchains import chain_folk
from fewchairs.folkjudge import folk_end, folk_holds, folk_judge
from fewchairs.folks import Folk
from fewchairs.guards import guard, guards
from fewchairs.hallrows import held
from fewchairs.halls import BookHall, CountedHall, Hall, LoggedHall
from fewchairs.houses import House
from fewchairs.judge import holds, judge
from fewchairs.leaders import leader_cards, leader_rows
from fewchairs.leading import split_leader, turns_of
from fewchairs.look import first_fault, given_up, is_free, look, passes
from fewchairs.makers import fewest_custom, middle_custom, most_custom, order_custom
from fewchairs.nets import Net
from fewchairs.orders import in_turn, order_of
from fewchairs.parties import Party, together
from fewchairs.rules import Rule
from fewchairs.runs import left, steps
from fewchairs.seatings import rule_from, rule_table
from fewchairs.sharecount import count_shares, number_of_shares, shares_at
from fewchairs.shareparts import fewer_crowd, parting
from fewchairs.shares import Shares
from fewchairs.sharing import custom_of_shares, shares_of
from fewchairs.texts import read_crowd, read_custom, read_row, show_steps, write_crowd, write_custom, write_row
from fewchairs.twos import threshold_custom, threshold_of, two_end
from fewchairs.waiting import WaitingRoom
from fewchairs.walks import Walk
from fewchairs.wishes import first_wish, fits, is_stable, only_one
from tests.helpers import order_rule, row_chain
from tests.test_interface import CLASSES, FUNCTIONS

HOUSE = House(2, 2)
FEWEST = fewest_custom(HOUSE)
RULE = order_rule(HOUSE, [1, 0])
OTHER = order_rule(House(2, 1), [0, 1])
UNLIKE = order_rule(House.unlike(4, 2), [2, 0, 3, 1])
CARDS = Cards(0, [1, 2, 3], [[3, 2], [3], []])
SHARES = Shares.spelled([1, 2], [0], [])
CHAIN = row_chain(3, 3)
NET = Net([RULE, OTHER], [[0, 1], [1, 0]])
FOLK = chain_folk(Chain(row_chain(4, 2, most=(1,) * 4)), 2)

# For each function some lists of arguments.
CALLS = {
    size: [[(1, 2)]], plus: [[(1, 2), (3, 4)]], minus: [[(3, 4), (1, 2)], [(0, 0), (1, 2)]],
    within: [[(1, 2), (3, 4)]], lesser: [[(1, 2), (3, 0)]], greater: [[(1, 2), (3, 0)]], kinds_in: [[(1, 0, 2)]],
    crowd_of: [[3, 0, 2, 2], [3, 5]], row_of: [[(1, 2)], [(1000, 1)]], parts: [[(1, 0, 2), 2]],
    count_customs: [[HOUSE]], custom_at: [[HOUSE, 2], [HOUSE, 4]], number_of: [[FEWEST]],
    order_custom: [[HOUSE, [1, 0]], [HOUSE, [1, 1]]], most_custom: [[HOUSE]], fewest_custom: [[HOUSE]],
    middle_custom: [[HOUSE]], steps: [[FEWEST, [0, 1, 1]], [FEWEST, [0, 7]]], left: [[FEWEST, [0, 1, 1]], [FEWEST, [9]]],
    look: [[FEWEST, (2, 2)], [FEWEST, (2, 1)]], given_up: [[FEWEST, (2, 2)]], passes: [[FEWEST, (2, 2)]],
    first_fault: [[FEWEST], [RULE.custom]], is_free: [[FEWEST]], judge: [[FEWEST], [RULE.custom]],
    holds: [[FEWEST, judge(FEWEST)], [RULE.custom, judge(RULE.custom)], [FEWEST, ("bound", (9,), [5], [], (), ())]],
    floor: [[FEWEST, (2, 2)], [FEWEST, (1,)]], floor_meeting: [[FEWEST, (2, 2), 0], [FEWEST, (2, 2), 2]],
    trouble: [[FEWEST, (3, 3)]], ends: [[FEWEST, (2, 2)], [FEWEST, (9, 9)]],
    row_to: [[FEWEST, (2, 2), (0, 2)], [FEWEST, (2, 2), (1, 1)]], chance: [[FEWEST, (2, 2), 0, 1]],
    surely: [[FEWEST, (2, 2)]], rule_table: [[RULE]],
    rule_from: [[HOUSE, dict(rule_table(RULE))], [HOUSE, {(0, 0): (0, 0)}], [HOUSE, {**dict(rule_table(RULE)), 5: 5}]],
    together: [[RULE, (1, 2), (3, 4)], [RULE, (1,)]], guard: [[RULE, (5, 5), 0]], guards: [[RULE, 0, 0], [RULE, 4, 0]],
    never_fewer: [[RULE, OTHER, 0]], not_inside: [[RULE, OTHER]], range_of: [[RULE, (0, 1), (3, 3), 0]],
    crowd_with: [[RULE, (0, 1), (3, 3), 0, 1]], one_end: [[RULE, (0, 1), (3, 3)]], threshold_of: [[RULE.custom]],
    threshold_custom: [[2, 1], [2, 3]], two_end: [[2, 1, (4, 5)]], least_changes: [[[1, 0, 1, 0]], [[1, 0, 1]]],
    shares_of: [[order_custom(House(3, 2), [0, 2, 1])]], custom_of_shares: [[SHARES]], count_shares: [[3]],
    shares_at: [[3, 17]], number_of_shares: [[SHARES]], parting: [[SHARES, shares_at(3, 0)], [SHARES, SHARES]],
    fewer_crowd: [[SHARES, shares_at(3, 0), 0]], cards_of: [[UNLIKE.custom]], custom_of_cards: [[CARDS]],
    count_cards: [[4], [31]], cards_at: [[4, 7], [4, 24]], number_of_cards: [[CARDS]], leader_rows: [[CARDS]],
    leader_cards: [[CARDS, [0, 1, 2, 3]], [CARDS, [2, 3, 1, 0]]], three_parting: [[CARDS, cards_at(4, 5)], [CARDS, CARDS]],
    held: [[(5, 1), RULE, OTHER], [(5, 1)], [(5,), RULE]], order_of: [[RULE], [RULE >> order_rule(House(2, 2), [0, 1])]],
    in_turn: [[HOUSE, [[0, 1], [1, 0]]], [HOUSE, [[0, 1], [1, 1]]]], split_leader: [[UNLIKE], [RULE]],
    turns_of: [[UNLIKE], [RULE]], fits: [[NET, (1, 1), ((1, 0), (0, 1)), (0, 0)], [NET, (1,), (), (0, 0)]],
    first_wish: [[NET, ((0, 0), (0, 0)), (1, 1)]], is_stable: [[NET, (1, 1), ((1, 0), (0, 1)), (0, 0)]],
    only_one: [[NET, (1, 1)]], chain_fault: [[CHAIN], [CHAIN[:1] + [order_rule(House(3, 2), [2, 1, 0])]]],
    joined: [[CHAIN], [CHAIN[:1]]], chain_of: [[Rule(joined(CHAIN))], [RULE]],
    folk_judge: [[FOLK], [Folk(UNLIKE.custom, [2, 0, 3, 2])]],
    folk_holds: [[FOLK, folk_judge(FOLK)], [FOLK, ("bound", (9,), [5], [], [], [(1,)])]],
    folk_end: [[FOLK, [2, 0, 3]], [FOLK, [2, 2]], [Folk(UNLIKE.custom, [2, 0, 3, 2]), [0]]],
    chain_folk: [[Chain(row_chain(4, 2, most=(1,) * 4)), 2], [Chain(CHAIN), 2]],
    write_crowd: [[(1, 0, 2)]], read_crowd: [[3, "1a+2c"], [3, "2c+1a"]], write_row: [[[0, 2]]],
    read_row: [[3, "ac"], [3, "-"], [3, ""]], write_custom: [[FEWEST]], read_custom: [["2 2 any goes baba"], ["2 2"]],
    show_steps: [[FEWEST, [0, 1, 1]], [FEWEST, [7]]],
}


def drafted():
    draft = Draft(HOUSE)
    draft.put((1, 2), 0)
    draft[(0, 3)] = 1
    return draft


def busy_hall(make):
    hall = make(FEWEST)
    for kind in (0, 1, 1, 0):
        hall.come(kind)
    return hall


def known():
    facts = Facts(2)
    facts.tell((5, 5, 5), (1, 1, 0))
    facts.tell((0, 5, 5), (0, 1, 1))
    return facts


def quarrelling():
    facts = known()
    facts.tell((9, 9, 9), (0, 0, 2))
    return facts


def asking():
    asker = Asker(5)
    asker.tell(asker.next_three()[0])
    return asker


def walking():
    walk = Walk(NET)
    for kind in (0, 1, 0, 1, 0):
        walk.come(kind)
    walk.step(0, 0)
    return walk


def waiting_room():
    room = WaitingRoom(Chain(CHAIN), seats=2)
    for kind in (0, 1, 2, 0):
        room.come(kind)
    return room


def busy_desk():
    desk = Desk()
    desk.run("house h 2 2 any\ncustom c h fewest\nhall t c")
    desk.run("come t aba\ncome t b")
    desk.tell("again t b")
    desk.undo()
    return desk


# For each class a way to make an object, and calls of its methods: those that only ask, those that change, and
# those that raise an error.
OBJECTS = [
    (lambda: House(2, 2, most=(3, 4)), [("crowds", 2), ("meetings",), ("groups",), ("small_crowds",), ("has", (1, 1)),
                                        ("check", (1, 1)), ("same_guests", HOUSE), ("__eq__", HOUSE)], [],
     [("check", (4, 4))]),
    (lambda: fewest_custom(HOUSE), [("who_goes", (1, 2)), ("__call__", (1, 2)), ("table",), ("renamed", [1, 0]),
                                    ("__eq__", FEWEST)], [], [("who_goes", (1, 1)), ("renamed", [1])]),
    (drafted, [("missing",), ("__getitem__", (1, 2)), ("__iter__",)],
     [("put", (1, 2), 1), ("drop", (1, 2)), ("__setitem__", (2, 1), 0)],
     [("put", (1, 2), 2), ("drop", (1, 1)), ("finished",), ("__setitem__", (1, 1), 0), ("__getitem__", (9, 9))]),
    (lambda: busy_hall(Hall), ["sitting", "came", "away", "free"], [("come", 0), ("again", 0)],
     [("come", 2), ("again", 2), ("again", 1)]),
    (lambda: busy_hall(LoggedHall), ["sitting", "log"], [("come", 0), ("again", 0)], [("come", 2), ("again", 1)]),
    (lambda: busy_hall(CountedHall), ["sitting", "sent"], [("come", 0), ("again", 0)], [("come", 2), ("again", 1)]),
    (lambda: busy_hall(BookHall), ["sitting", "log", "sent"], [("come", 0), ("again", 0)], [("come", 2), ("again", 1)]),
    (lambda: order_rule(HOUSE, [1, 0]), ["sure", ("end", (3, 1)), ("cap", 0, (3, 1)), ("__rshift__", OTHER),
                                         ("__eq__", RULE)], [],
     [("end", (1,)), ("cap", 2, (1, 1)), ("__rshift__", UNLIKE), ("__rshift__", order_rule(House(2, 5), [0, 1]))]),
    (lambda: Party(RULE, (3, 1)), ["sitting", ("__add__", Party(RULE, (1, 1))), ("__getitem__", 0), ("__contains__", 1),
                                   ("__iter__",)], [], [("__getitem__", 2), ("__add__", Party(OTHER, (1, 1)))]),
    (lambda: Shares.spelled([1, 2], [0], []), [("letters", 0), ("gains", 0, 1), ("end", (0, 5, 5)), ("goes", (1, 2, 1)),
                                               ("__eq__", SHARES)], [],
     [("letters", 3), ("gains", 0, 3), ("end", (1, 1)), ("goes", (1, 1, 1))]),
    (known, ["told", ("fits", SHARES), ("how_many",), ("some",), ("possible", (0, 5, 0)), ("answer", (0, 5, 0)),
             ("answer", (5, 0, 5)), ("quarrel",)], [("tell", (5, 5, 5), (1, 1, 0)), ("drop", 0)],
     [("tell", (1, 1), (1, 1)), ("tell", (5, 5, 5), (1, 1, 1)), ("drop", 2), ("possible", (1,)), ("answer", (-1, 1, 1))]),
    (quarrelling, ["told", ("quarrel",), ("answer", (1, 1, 1)), ("some",), ("possible", (1, 1, 1))], [("drop", 2)], []),
    (lambda: Cards(0, [1, 2, 3], [[3, 2], [3], []]), [("goes", [3, 2, 1]), ("stay", [2, 3, 1]), ("__eq__", CARDS)], [],
     [("goes", [3, 2]), ("stay", [1, 1])]),
    (asking, ["asked", ("next_three",)], [("tell", asking().next_three()[1])], [("tell", 9), ("learned",)]),
    (lambda: Net([RULE, OTHER], [[0, 1], [1, 0]]), [("visits", (3, 2)), ("settle", (3, 2)), ("settle_late", (1, 1))], [],
     [("visits", (1,)), ("settle", (1,)), ("settle_late", (-1, 0))]),
    (walking, ["held", "home", "came", "ways"], [("come", 1), ("step", 0, 0), ("finish",)],
     [("come", 2), ("step", 5, 5), ("step", 1, 0)]),
    (lambda: Chain(CHAIN), [("__getitem__", 2), ("__iter__",), ("line", (3, 2, 1))], [],
     [("__getitem__", 0), ("line", (1, 1))]),
    (waiting_room, ["there", "sitting", "waiting", "seats"],
     [("come", 1), ("leave", 0), ("add_chair",), ("remove_chair",), ("set_seats", 3)],
     [("come", 3), ("leave", -1), ("set_seats", 4), ("set_seats", 0)]),
    (lambda: Folk(FOLK.custom, FOLK.joins), [("joined", (1, 1, 1, 0)), ("parting", [2, 0, 3])], [],
     [("joined", (1, 1, 0, 0)), ("parting", [0, 0])]),
    (busy_desk, ["lines", "names", ("tell", "ask sits t"), ("run", "ask sits t\nask came t")],
     [("tell", "come t a"), ("run", "come t a\nask sits t"), ("undo",), ("redo",)],
     [("tell", "come t z"), ("tell", ""), ("run", "come t a\nask"), ("run", "")]),
]


def shown(value):
    """All that the value holds, written with plain values alone."""
    if isinstance(value, types.GeneratorType):
        return ["generator"] + [shown(part) for part in value]
    if isinstance(value, (list, tuple)):
        return [value.__class__.__name__] + [shown(part) for part in value]
    if isinstance(value, dict):
        return ["dict"] + [(shown(key), shown(value[key])) for key in value]
    if type(value).__module__.startswith("fewchairs"):
        return [type(value).__name__, shown(vars(value))]
    return value if isinstance(value, (int, str, type(None))) else list(value)


def spoil(value):
    """Changes all lists and dicts in the value, those in tuples too."""
    if isinstance(value, (list, tuple)):
        for part in value:
            spoil(part)
    if isinstance(value, list):
        value.append("spoiled")
        value.reverse()
    if isinstance(value, dict):
        value.clear()


def outcome(call, args):
    """What a call returns, or the error that it raises; and that as plain values."""
    try:
        found = call(*args)
        plain = shown(found)
        return found, plain
    except errors.HallError as error:
        return None, ["raises", type(error).__name__, shown(vars(error))]


def is_error(answer):
    return isinstance(answer, list) and answer[0] == "raises"


def asked(found, question):
    """The answer of an object: of a property, or of a method with its arguments."""
    if isinstance(question, str):
        return outcome(lambda: getattr(found, question), [])
    return outcome(getattr(found, question[0]), list(question[1:]))


class Functions(unittest.TestCase):
    def test_every_function_is_called(self):
        names = {(function.__module__.partition(".")[2], function.__name__) for function in CALLS}
        wanted = {(name, function) for name, functions in FUNCTIONS.items() for function in functions}
        self.assertEqual(names, wanted)

    def test_the_same_question_again(self):
        for function, calls in CALLS.items():
            for args in calls:
                with self.subTest(function=function.__name__, args=args):
                    before = shown(args)
                    found, answer = outcome(function, args)
                    self.assertEqual(shown(args), before)
                    spoil(found)
                    self.assertEqual(shown(args), before)
                    self.assertEqual(outcome(function, args)[1], answer)

    def test_errors_derive_directly_from_hall_error(self):
        raised = set()
        for function, calls in CALLS.items():
            for args in calls:
                answer = outcome(function, args)[1]
                if is_error(answer):
                    raised.add(answer[1])
                    self.assertEqual(getattr(errors, answer[1]).__bases__, (errors.HallError,))
        self.assertGreater(len(raised), 11)


class Objects(unittest.TestCase):
    def test_every_class_is_there(self):
        found = {(type(make()).__module__.partition(".")[2], type(make()).__name__) for make, _, _, _ in OBJECTS}
        self.assertEqual(found, set(CLASSES))

    def test_every_method_and_property_is_used(self):
        for module, name in CLASSES:
            used = {"__init__", "unlike", "of", "spelled", "finished", "learned"}
            for make, asks, changes, wrong in OBJECTS:
                if type(make()).__name__ == name:
                    for question in [*asks, *changes, *wrong]:
                        used.add(question if isinstance(question, str) else question[0])
            self.assertLessEqual(set(CLASSES[(module, name)]), used, name)

    def test_asking_changes_nothing(self):
        for make, asks, _, _ in OBJECTS:
            thing = make()
            before = shown(thing)
            for question in asks:
                with self.subTest(name=type(thing).__name__, question=question):
                    args = shown(list(question))
                    found, answer = asked(thing, question)
                    spoil(found)
                    self.assertEqual(shown(thing), before)
                    self.assertEqual(asked(thing, question)[1], answer)
                    self.assertEqual(shown(list(question)), args)

    def test_a_call_that_raises_an_error_changes_no_object(self):
        for make, asks, _, wrong in OBJECTS:
            thing = make()
            before, answers = shown(thing), [asked(thing, question)[1] for question in asks]
            for call in wrong:
                with self.subTest(name=type(thing).__name__, call=call):
                    args = shown(list(call))
                    answer = asked(thing, call)[1]
                    self.assertTrue(is_error(answer))
                    self.assertEqual(getattr(errors, answer[1]).__bases__, (errors.HallError,))
                    self.assertEqual(shown(list(call)), args)
                    self.assertEqual(shown(thing), before)
            self.assertEqual([asked(thing, question)[1] for question in asks], answers)

    def test_changes_of_one_object_change_no_other(self):
        for make, asks, changes, _ in OBJECTS:
            other = make()
            before = shown(other)
            for call in changes:
                with self.subTest(name=type(other).__name__, call=call):
                    one = make()
                    found, answer = asked(one, call)
                    self.assertFalse(is_error(answer))
                    spoil(found)
                    self.assertEqual(shown(other), before)
                    twin = make()
                    asked(twin, call)
                    self.assertEqual([asked(one, question)[1] for question in asks],
                                     [asked(twin, question)[1] for question in asks])


if __name__ == "__main__":
    unittest.main()
