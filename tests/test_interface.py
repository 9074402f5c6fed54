"""The names, arguments and places of the interface of DOC.md, for the files that exist."""

import importlib
import inspect
import unittest

FUNCTIONS = {
    "crowds": {
        "size": "(crowd)", "plus": "(first, second)", "minus": "(first, second)",
        "within": "(first, second)", "lesser": "(first, second)", "greater": "(first, second)",
        "kinds_in": "(crowd)", "crowd_of": "(kinds, *guests)", "row_of": "(crowd)",
        "parts": "(crowd, number)",
    },
    "customnumbers": {
        "count_customs": "(house)", "custom_at": "(house, number)", "number_of": "(custom)",
    },
    "makers": {
        "order_custom": "(house, order)", "most_custom": "(house)", "fewest_custom": "(house)",
        "middle_custom": "(house)",
    },
    "runs": {"steps": "(custom, row)", "left": "(custom, row)"},
    "look": {
        "look": "(custom, group)", "given_up": "(custom, group)", "passes": "(custom, group)",
        "first_fault": "(custom)", "is_free": "(custom)",
    },
    "judge": {"judge": "(custom)", "holds": "(custom, certificate)"},
    "floors": {"floor": "(custom, crowd)", "floor_meeting": "(custom, crowd, kind)"},
    "calm": {"trouble": "(custom, crowd)"},
    "ends": {
        "ends": "(custom, crowd)", "row_to": "(custom, crowd, end)",
        "chance": "(custom, crowd, kind, number)", "surely": "(custom, crowd)",
    },
    "seatings": {"rule_table": "(rule)", "rule_from": "(house, seats)"},
    "parties": {"together": "(rule, *crowds)"},
    "guards": {"guard": "(rule, crowd, kind)", "guards": "(rule, kind, number)"},
    "compare": {"never_fewer": "(first, second, kind)", "not_inside": "(first, second)"},
    "between": {
        "range_of": "(rule, low, high, kind)", "crowd_with": "(rule, low, high, kind, number)",
        "one_end": "(rule, low, high)",
    },
    "twos": {
        "threshold_of": "(custom)", "threshold_custom": "(chairs, keep)",
        "two_end": "(chairs, keep, crowd)",
    },
    "crossed": {"least_changes": "(answers)"},
    "sharing": {"shares_of": "(custom)", "custom_of_shares": "(shares)"},
    "sharecount": {
        "count_shares": "(chairs)", "shares_at": "(chairs, number)", "number_of_shares": "(shares)",
    },
    "shareparts": {"parting": "(one, other)", "fewer_crowd": "(one, other, kind)"},
    "cardtables": {"cards_of": "(custom)", "custom_of_cards": "(cards)"},
    "cardnumbers": {
        "count_cards": "(people)", "cards_at": "(people, number)", "number_of_cards": "(cards)",
    },
    "leaders": {"leader_rows": "(cards)", "leader_cards": "(cards, row)"},
    "cardparts": {"three_parting": "(one, other)"},
    "hallrows": {"held": "(crowd, *rules)"},
    "orders": {"order_of": "(rule)", "in_turn": "(house, orders)"},
    "leading": {"split_leader": "(rule)", "turns_of": "(rule)"},
    "wishes": {
        "fits": "(net, crowd, held, home)", "first_wish": "(net, held, home)",
        "is_stable": "(net, crowd, held, home)", "only_one": "(net, crowd)",
    },
    "chains": {"chain_fault": "(rules)"},
    "extras": {"joined": "(rules)", "chain_of": "(rule)"},
    "folkjudge": {
        "folk_judge": "(folk)", "folk_holds": "(folk, certificate)", "folk_end": "(folk, people)",
    },
    "folkchains": {"chain_folk": "(chain, chairs)"},
    "texts": {
        "write_crowd": "(crowd)", "read_crowd": "(kinds, text)", "write_row": "(row)", "read_row": "(kinds, text)",
        "write_custom": "(custom)", "read_custom": "(text)", "show_steps": "(custom, row)",
    },
}

CLASSES = {
    ("houses", "House"): {
        "__init__": "(self, kinds, chairs, *, most=())", "unlike": "(people, chairs)",
        "crowds": "(self, number)", "meetings": "(self)", "groups": "(self)",
        "small_crowds": "(self)", "has": "(self, crowd)", "check": "(self, crowd)",
        "same_guests": "(self, other)", "__eq__": "(self, other)",
    },
    ("customs", "Custom"): {
        "__init__": "(self, house, answers)", "__eq__": "(self, other)",
        "__call__": "(self, meeting)", "who_goes": "(self, meeting)", "table": "(self)",
        "renamed": "(self, names)", "of": "(house, table)",
    },
    ("drafts", "Draft"): {
        "__init__": "(self, house)", "__setitem__": None, "__getitem__": None, "__iter__": "(self)",
        "put": "(self, meeting, kind)", "drop": "(self, meeting)", "missing": "(self)",
        "finished": "(self)",
    },
    ("halls", "Hall"): {
        "__init__": "(self, custom)", "come": "(self, kind)", "again": "(self, kind)",
        "sitting": property, "came": property, "away": property, "free": property,
    },
    ("halls", "LoggedHall"): {
        "__init__": "(self, custom)", "come": "(self, kind)", "again": "(self, kind)", "log": property,
    },
    ("halls", "CountedHall"): {
        "__init__": "(self, custom)", "come": "(self, kind)", "again": "(self, kind)", "sent": property,
    },
    ("halls", "BookHall"): {"come": "(self, kind)", "again": "(self, kind)"},
    ("rules", "Rule"): {
        "__init__": "(self, custom)", "end": "(self, crowd)", "cap": "(self, kind, crowd)",
        "__rshift__": "(self, other)", "__eq__": "(self, other)", "sure": property,
    },
    ("parties", "Party"): {
        "__init__": "(self, rule, crowd)", "__add__": "(self, other)", "__getitem__": None,
        "__contains__": None, "__iter__": "(self)", "sitting": property,
    },
    ("shares", "Shares"): {
        "__init__": "(self, keep, words)", "spelled": "(first, second, third)", "__eq__": "(self, other)",
        "letters": "(self, kind)", "gains": "(self, kind, lacking)", "end": "(self, crowd)",
        "goes": "(self, meeting)",
    },
    ("facts", "Facts"): {
        "__init__": "(self, chairs)", "tell": "(self, crowd, end)", "drop": "(self, at)", "told": property,
        "fits": "(self, shares)", "how_many": "(self)", "some": "(self)", "possible": "(self, crowd)",
        "answer": "(self, crowd)", "quarrel": "(self)",
    },
    ("cards", "Cards"): {
        "__init__": "(self, host, row, cards)", "__eq__": "(self, other)", "goes": "(self, three)",
        "stay": "(self, people)",
    },
    ("asks", "Asker"): {
        "__init__": "(self, people)", "next_three": "(self)", "tell": "(self, person)", "learned": "(self)",
        "asked": property,
    },
    ("nets", "Net"): {
        "__init__": "(self, rules, routes)", "visits": "(self, crowd)", "settle": "(self, crowd)",
        "settle_late": "(self, crowd)",
    },
    ("walks", "Walk"): {
        "__init__": "(self, net)", "come": "(self, kind)", "step": "(self, kind, hall)", "finish": "(self)",
        "held": property, "home": property, "came": property, "ways": property,
    },
    ("chains", "Chain"): {
        "__init__": "(self, rules)", "__getitem__": None, "__iter__": "(self)", "line": "(self, crowd)",
    },
    ("waiting", "WaitingRoom"): {
        "__init__": "(self, chain, *, seats=1)", "come": "(self, kind)", "leave": "(self, kind)",
        "add_chair": "(self)", "remove_chair": "(self)", "set_seats": "(self, number)", "there": property,
        "sitting": property, "waiting": property, "seats": property,
    },
    ("folks", "Folk"): {
        "__init__": "(self, custom, joins)", "joined": "(self, meeting)", "parting": "(self, row)",
    },
    ("desk", "Desk"): {
        "__init__": "(self)", "tell": "(self, line)", "run": "(self, text)", "undo": "(self)", "redo": "(self)",
        "lines": property, "names": property,
    },
}

CLASSMETHODS = {("houses", "House", "unlike")}
STATICMETHODS = {("customs", "Custom", "of"), ("shares", "Shares", "spelled")}
ASSIGNED = {("waiting", "WaitingRoom", "seats")}


def module(name):
    return importlib.import_module("fewchairs." + name)


class Interface(unittest.TestCase):
    def test_each_function_is_defined_in_its_file_with_its_arguments(self):
        for name, functions in FUNCTIONS.items():
            for function, arguments in functions.items():
                with self.subTest(file=name, function=function):
                    found = getattr(module(name), function)
                    self.assertTrue(inspect.isfunction(found))
                    self.assertEqual(found.__module__, "fewchairs." + name)
                    self.assertEqual(str(inspect.signature(found)), arguments)

    def test_each_class_is_defined_in_its_file(self):
        for name, class_name in CLASSES:
            with self.subTest(file=name, name=class_name):
                self.assertEqual(getattr(module(name), class_name).__module__, "fewchairs." + name)

    def test_each_method_stands_in_the_class_itself(self):
        for (name, class_name), methods in CLASSES.items():
            found = getattr(module(name), class_name)
            for method, arguments in methods.items():
                with self.subTest(file=name, name=class_name, method=method):
                    self.assertIn(method, vars(found))
                    own = vars(found)[method]
                    if arguments is property:
                        self.assertIsInstance(own, property)
                        self.assertEqual(own.fset is not None, (name, class_name, method) in ASSIGNED)
                    elif arguments is not None:
                        self.assertEqual(str(inspect.signature(getattr(found, method))), arguments)
                    self.assertEqual(isinstance(own, classmethod), (name, class_name, method) in CLASSMETHODS)
                    self.assertEqual(isinstance(own, staticmethod), (name, class_name, method) in STATICMETHODS)

    def test_generators(self):
        self.assertTrue(inspect.isgeneratorfunction(module("crowds").parts))
        self.assertTrue(inspect.isgeneratorfunction(module("leaders").leader_rows))

    def test_families_of_halls(self):
        halls = module("halls")
        self.assertEqual(halls.LoggedHall.__bases__, (halls.Hall,))
        self.assertEqual(halls.CountedHall.__bases__, (halls.Hall,))
        self.assertEqual(halls.BookHall.__bases__, (halls.LoggedHall, halls.CountedHall))


if __name__ == "__main__":
    unittest.main()
