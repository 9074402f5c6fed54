"""The desk: points [66] to [69] and the heading fewchairs/desk.py."""

import random
import re
import unittest

from fewchairs.customnumbers import count_customs, number_of
from fewchairs.desk import Desk
from fewchairs.ends import ends
from fewchairs.errors import BadLine, NothingToUndo
from fewchairs.floors import floor
from fewchairs.halls import Hall
from fewchairs.houses import House
from fewchairs.judge import judge
from fewchairs.look import is_free
from fewchairs.lineforms import FORMS
from fewchairs.linework import ANSWERS, MAKERS, MOVERS
from fewchairs.makers import fewest_custom, middle_custom, most_custom, order_custom
from fewchairs.rules import Rule
from fewchairs.texts import write_crowd, write_row
from tests.helpers import Case, all_customs

START = ["house h 2 2 any", "house few 3 1 most 2 1 1", "custom c h fewest", "custom o h order b a",
         "custom p few order c a b", "hall t c", "hall u p"]
LANGUAGE = ("house custom hall come again ask any most order fewest middle number answers then goes free end floor"
            " ends sure same came sits away").split(" ")
ASKS = ["ask goes c 1a+2b", "ask free c", "ask free o", "ask end o 3a+1b", "ask floor c 2a+2b", "ask ends c 2a+2b",
        "ask sure o", "ask number c", "ask same c o", "ask same c c", "ask came t", "ask sits t", "ask away t",
        "ask came u", "ask sits u", "ask away u", "ask free d", "ask number d", "ask sits v", "ask same c d"]


def started():
    desk = Desk()
    desk.run("\n".join(START))
    return desk


def replies(desk, lines=tuple(ASKS)):
    """What the desk answers to all lines, errors included, and its lines and names."""
    found = []
    for line in lines:
        try:
            found.append(desk.tell(line))
        except BadLine as error:
            found.append((error.number, error.reason))
    return (found, desk.lines, desk.names)


class Lines(Case):
    def answers(self, desk, line, answer):
        self.assertEqual(desk.tell(line), answer, line)

    def test_example(self):
        desk = Desk()
        self.assertEqual(desk.run("house h 2 2 any\ncustom c h fewest\nhall t c\ncome t aba\nask free c"),
                         ["h", "c", "t", "--b", "bound abba aabb"])
        self.assertEqual(desk.undo(), ["house h 2 2 any", "custom c h fewest", "hall t c", "come t aba"])
        self.assertEqual(desk.names, [])

    def test_houses(self):
        desk = Desk()
        self.answers(desk, "house h 3 2 any", "h")
        self.answers(desk, "house few 3 2 most 2 1 1000000000000000000", "few")
        self.answers(desk, "house abcdefghijkl 6 5 any", "abcdefghijkl")
        for house, most in [("h", "any"), ("few", "most 2 1 1000000000000000000")]:
            name = "c" + house
            self.answers(desk, f"custom {name} {house} most", name)
            wanted = House(3, 2, most=() if most == "any" else (2, 1, 10 ** 18))
            self.answers(desk, f"ask number {name}", str(number_of(most_custom(wanted))))

    def test_all_the_most_is_any(self):
        desk = Desk()
        desk.run("house h 1 1 any\nhouse g 1 1 most 1000000000000000000\ncustom a h most\ncustom b g most")
        self.answers(desk, "ask same a b", "same")

    def test_customs(self):
        desk = Desk()
        desk.run("house h 3 2 any\nhouse g 3 1 any")
        house = House(3, 2)
        for at, (words, custom) in enumerate([
                ("order c a b", order_custom(house, [2, 0, 1])), ("most", most_custom(house)),
                ("fewest", fewest_custom(house)), ("middle", middle_custom(house)),
                ("number 17", None), ("answers cbcbcbacba", None)]):
            name = "x" + "abcdefgh"[at]
            self.answers(desk, f"custom {name} h {words}", name)
            number = int(desk.tell(f"ask number {name}"))
            if custom is not None:
                self.assertEqual(number, number_of(custom))
                self.answers(desk, f"custom y{name} h number {number}", "y" + name)
                self.answers(desk, f"custom z{name} h answers {write_row(custom.answers)}", "z" + name)
                self.answers(desk, f"ask same {name} y{name}", "same")
                self.answers(desk, f"ask same {name} z{name}", "same")
        self.answers(desk, "ask number xe", "17")
        self.answers(desk, "ask same xa xb", "differ")

    def test_halls_in_a_row(self):
        desk = Desk()
        desk.run("house h 2 1 any\ncustom a h order a b\ncustom b h order b a\ncustom c then a b")
        one, other = [Rule(order_custom(House(2, 1), order)) for order in ([0, 1], [1, 0])]
        self.answers(desk, "ask number c", str(number_of((one >> other).custom)))
        self.answers(desk, "ask end c 5a+1b", "1a+1b")
        self.answers(desk, "ask sure c", "1a+1b")
        self.answers(desk, "custom d then c a", "d")
        self.answers(desk, "ask sure d", "2a+1b")

    def test_halls(self):
        desk = started()
        hall = Hall(fewest_custom(House(2, 2)))
        for row in ["a", "ba", "bbab", "aaaa", "b"]:
            signs = [hall.come("ab".index(letter)) for letter in row]
            self.answers(desk, "come t " + row, "".join("-" if sign is None else "ab"[sign] for sign in signs))
            for letter in "ab":
                if hall.away["ab".index(letter)]:
                    self.answers(desk, "again t " + letter, "ab"[hall.again("ab".index(letter))])
            self.answers(desk, "ask came t", write_crowd(hall.came))
            self.answers(desk, "ask sits t", write_crowd(hall.sitting))
            self.answers(desk, "ask away t", write_crowd(hall.away))

    def test_several_guests_come_again(self):
        desk = started()
        self.answers(desk, "come t aabb", "--bb")
        self.answers(desk, "again t bb", "bb")
        self.answers(desk, "ask came t", "2a+2b")

    def test_new_halls_are_empty(self):
        desk = started()
        for line in ("ask came t", "ask sits t", "ask away t"):
            self.answers(desk, line, "0")

    def test_two_halls_with_one_custom(self):
        desk = started()
        desk.run("hall v c\ncome t ab")
        self.answers(desk, "ask came v", "0")
        self.answers(desk, "ask came t", "1a+1b")

    def test_asks_about_all_customs_of_a_house(self):
        house = House(2, 2, most=(3, 2))
        desk = Desk()
        desk.tell("house h 2 2 most 3 2")
        for custom in all_customs(house):
            name = "x" + "".join("ab"[kind] for kind in custom.answers)
            desk.tell(f"custom {name} h answers {write_row(custom.answers)}")
            certificate = judge(custom)
            rows = [] if certificate[0] == "free" else [write_row(row) for row in certificate[2:4]]
            self.answers(desk, f"ask free {name}", " ".join([certificate[0]] + rows))
            for crowd in [(0, 0), (2, 1), (3, 2), (0, 2)]:
                text = write_crowd(crowd)
                self.answers(desk, f"ask floor {name} {text}", write_crowd(floor(custom, crowd)))
                shown = " ".join(f"{write_crowd(end)}:{number}" for end, number in ends(custom, crowd))
                self.answers(desk, f"ask ends {name} {text}", shown)
                if is_free(custom):
                    self.answers(desk, f"ask end {name} {text}", write_crowd(Rule(custom).end(crowd)))
                    self.answers(desk, f"ask sure {name}", write_crowd(Rule(custom).sure))
            for meeting, goes in custom.table().items():
                self.answers(desk, f"ask goes {name} {write_crowd(meeting)}", "ab"[goes])

    def test_ends_of_the_empty_crowd(self):
        self.answers(started(), "ask ends c 0", "0:1")

    def test_an_answer_with_more_than_40_digits(self):
        desk = Desk()
        desk.run("house h 6 5 any\ncustom c h order a b c d e f")
        number = int(desk.tell("ask number c"))
        self.assertGreater(number, 10 ** 100)
        self.assertEqual(number, number_of(order_custom(House(6, 5), [0, 1, 2, 3, 4, 5])))
        self.assertLess(number, count_customs(House(6, 5)))

    def test_great_crowds(self):
        desk = started()
        many = "1000000000000000000"
        self.answers(desk, f"ask end o {many}a+{many}b", "2b")
        self.answers(desk, f"ask end o {many}a+1b", "1a+1b")

    def test_names(self):
        desk = Desk()
        for name in ["z", "abcdefghijkl", "houses", "a", "mosts", "th"]:
            self.answers(desk, f"house {name} 1 1 any", name)
        self.assertEqual(desk.names, ["a", "abcdefghijkl", "houses", "mosts", "th", "z"])
        desk.names.clear()
        self.assertEqual(len(desk.names), 6)


class Reasons(Case):
    def bad(self, line, reason, desk=None):
        desk = desk or started()
        before = replies(desk)
        self.fails(BadLine, {"number": 1, "reason": reason}, desk.tell, line)
        self.fails(BadLine, {"number": 3, "reason": reason}, desk.run, "ask sits t\nhouse new 1 1 any\n" + line)
        self.assertEqual(replies(desk), before)

    def test_blanks(self):
        for line in ["", " ", "  ", " ask sits t", "ask sits t ", "ask  sits t", "ask sits  t", "ask\tsits t",
                     "\task sits t", "ask sits t\t", "come t  a", " nonsense", "nonsense ", "\t", "ask sits\tt"]:
            self.bad(line, "blanks")
        for line in ["ask sits t\n", "\nask sits t", "ask sits t\nask sits t", "\n"]:
            self.fails(BadLine, {"number": 1, "reason": "blanks"}, started().tell, line)

    def test_words(self):
        for line in ["tell h", "House x 1 1 any", "x", "HOUSE x 1 1 any", "asks sits t", "custom: c h most", "~", "-",
                     "any", "most", "again, t a", "goes c 1a", "h", "~ house x 1 1 any"]:
            self.bad(line, "word")

    def test_forms(self):
        for line in ["house", "house x", "house x 1 1", "house x 1 1 1 any", "house x 1 1 any any", "house x 1 1 most",
                     "house x 1 1 all", "house x 1 any", "custom", "custom x h", "custom x h order", "custom x h mosts",
                     "custom x h most most", "custom x h fewest a", "custom x h middle 1", "custom x h number",
                     "custom x h number 1 2", "custom x h answers", "custom x h answers a b", "custom x then c",
                     "custom x then c o c", "custom x then", "custom x than c o", "hall", "hall x", "hall x c c", "come",
                     "come t", "come t a b", "again", "again t", "again t a b", "ask", "ask goes", "ask goes c",
                     "ask goes c 1a 1b", "ask free", "ask free c c", "ask end c", "ask end c 1a 1a", "ask floor c",
                     "ask floor c 1a 1a", "ask ends c", "ask ends c 1a 1a", "ask sure", "ask sure c 1a", "ask number",
                     "ask number c c", "ask same c", "ask same c c c", "ask came", "ask came t t", "ask sits",
                     "ask sits t t", "ask away", "ask away t t", "ask what c", "ask Goes c 1a", "ask c free",
                     "house most 1 1 Any", "custom Bad nothing Most", "hall 1 2 3"]:
            self.bad(line, "form")

    def test_names_that_may_not_be_given(self):
        for name in ["X", "x1", "abcdefghijklm", "a-b", "0", "-", "aB", "a_b", "~", "hall,"] + list(LANGUAGE):
            for line in ["house {} 1 1 any", "house {} 1 1 most 1", "custom {} h order a b", "custom {} h most",
                         "custom {} h fewest", "custom {} h middle", "custom {} h number 0",
                         "custom {} h answers bbaa", "custom {} then c c", "hall {} c"]:
                self.bad(line.format(name), "name", started())
        self.assertEqual(len(LANGUAGE), 24)

    def test_names_that_are_taken(self):
        for name in ["h", "c", "t", "few", "u"]:
            for line in ["house {} 1 1 any", "house {} 9 9 any", "custom {} h order a b", "custom {} x most",
                         "custom {} then x x", "hall {} c", "hall {} x", "hall {} h"]:
                self.bad(line.format(name), "taken")

    def test_names_that_are_not_known(self):
        for line in ["custom x y most", "custom x c most", "custom x t most", "custom x H most", "custom x 1 most",
                     "custom x y order a b", "custom x y number x", "custom x y answers -", "custom x then c y",
                     "custom x then y c", "custom x then h c", "custom x then c t", "hall x y", "hall x h", "hall x t",
                     "come y a", "come c a", "come h 7", "again y a", "ask goes h 1a", "ask goes t 1a",
                     "ask goes y zz", "ask free h", "ask end y 1a", "ask floor t 1a", "ask ends h 1a", "ask sure t",
                     "ask number h", "ask same c h", "ask same h c", "ask same c t", "ask came c", "ask sits h",
                     "ask away x", "ask sits most"]:
            self.bad(line, "unknown")

    def test_a_line_with_the_words_of_two_forms(self):
        # HOUSE is the word then.
        for line in ["custom x then order a", "custom x then number 1", "custom x then answers ba",
                     "custom x then most", "custom x then number c", "custom x then order c"]:
            self.bad(line, "unknown")
        self.bad("custom then then c c", "name")
        self.bad("custom x then then c", "unknown")

    def test_values_that_are_not_written_so(self):
        for line in ["house x y 1 any", "house x 1 y any", "house x 01 1 any", "house x +1 1 any", "house x -1 1 any",
                     "house x 1 1 most x", "house x 1 1 most 01", "house x 1 1 most any", "house x 1.0 1 any",
                     "house x " + "1" * 41 + " 1 any", "house x 1 1 most " + "1" * 41, "custom x h order a c",
                     "custom x h order ab a", "custom x h order a -", "custom x h order A b", "custom x h order 0 1",
                     "custom x h number a", "custom x h number 00", "custom x h number -1",
                     "custom x h number " + "1" * 41, "custom x h answers -", "custom x h answers bcba",
                     "custom x h answers 1010", "come t -", "come t c", "come t abc", "come t A", "come t 1a", "again t -",
                     "again t f", "ask goes c 3", "ask goes c a", "ask goes c 1a+2c", "ask goes c 2b+1a",
                     "ask goes c 01a+2b", "ask goes c 0a+3b", "ask goes c -", "ask end o +1a", "ask end o 1a+",
                     "ask floor c 1c", "ask ends c 00", "ask ends c " + "1" * 41 + "a", "custom x few order a b d",
                     "come u d"]:
            self.bad(line, "value")

    def test_values_that_lead_to_errors(self):
        for line in ["house x 0 1 any", "house x 7 1 any", "house x 1 0 any", "house x 1 6 any", "house x 2 1 most 1",
                     "house x 2 1 most 1 1 1", "house x 1 1 most 0", "house x 1 1 most 1000000000000000001",
                     "house x 9 1 most 1", "house x " + "1" * 40 + " 1 any",
                     "custom x h order a", "custom x h order a a", "custom x h order a b a", "custom x h order a b b",
                     "custom x few order a b", "custom x h number 4", "custom x h number " + "9" * 40,
                     "custom x h answers bab", "custom x h answers babaa", "custom x h answers aaaa",
                     "custom x then c o", "custom x then o c", "custom x then o p", "custom x then p o",
                     "come u aaa", "come u bb", "come u abcc", "again t a", "again u c", "ask goes c 1a",
                     "ask goes c 2a+2b", "ask goes c 0", "ask goes p 1a", "ask end c 1a", "ask end p 3a",
                     "ask end p 1a+2b", "ask floor p 3a", "ask ends p 2b", "ask ends c 11a", "ask ends c 6a+5b",
                     "ask sure c", "ask end o 1000000000000000001a"]:
            self.bad(line, "value")

    def test_too_many_chairs_in_a_row(self):
        desk = Desk()
        desk.run("house h 2 3 any\ncustom c h order a b")
        self.fails(BadLine, {"number": 1, "reason": "value"}, desk.tell, "custom d then c c")

    def test_a_house_without_meetings_has_no_answers_to_tell(self):
        desk = Desk()
        desk.tell("house h 2 3 most 1 1")
        for row in ("-", "a"):
            self.fails(BadLine, {"number": 1, "reason": "value"}, desk.tell, "custom c h answers " + row)
        self.assertEqual(desk.tell("custom c h number 0"), "c")

    def test_several_reasons(self):
        for line, reason in [(" tell", "blanks"), ("tell  Bad", "blanks"), ("tell Bad", "word"), ("house Bad", "form"),
                             ("custom Bad x number y", "name"), ("custom h x number y", "taken"),
                             ("custom x y number z", "unknown"), ("custom x h number z", "value"),
                             ("house Bad z 9 any", "name"), ("house h z 9 any", "taken"), ("hall Bad Bad", "name"),
                             ("hall h Bad", "taken"), ("custom x then Bad c", "unknown"), ("come Bad Bad", "unknown"),
                             ("ask goes Bad Bad", "unknown"), ("custom c c order z", "taken"),
                             ("ask same c Bad", "unknown"), ("house x 9 z any", "value")]:
            self.bad(line, reason)

    def test_a_row_comes_as_a_whole_or_not_at_all(self):
        desk = started()
        desk.tell("come u ab")
        before = replies(desk)
        for line in ["come u aab", "come u cb", "again u ba", "again u bc"]:
            self.fails(BadLine, {"number": 1, "reason": "value"}, desk.tell, line)
            self.assertEqual(replies(desk), before)


def shown_forms():
    """A pattern for the words of each line of [66], in its order."""
    house = [r"house \S+ \S+ \S+ any", r"house \S+ \S+ \S+ most( \S+)+"]
    custom = [r"custom \S+ \S+ order( \S+)+"] + [rf"custom \S+ \S+ {word}" for word in ("most", "fewest", "middle")]
    custom += [r"custom \S+ \S+ number \S+", r"custom \S+ \S+ answers \S+", r"custom \S+ then \S+ \S+"]
    moves = [r"hall \S+ \S+", r"come \S+ \S+", r"again \S+ \S+"]
    asks = [rf"ask {word} \S+ \S+" for word in ("goes", "end", "floor", "ends", "same")]
    return house + custom + moves + asks + [rf"ask {word} \S+" for word in ("free", "sure", "number", "came", "sits",
                                                                          "away")]


class Forms(Case):
    def test_random_lines(self):
        chance = random.Random(68)
        words = ["house", "custom", "hall", "come", "again", "ask", "any", "most", "order", "number", "answers", "then",
                 "goes", "free", "end", "h", "c", "o", "t", "x", "y", "a", "b", "1", "2", "ba", "1a+1b", "0", "-"]
        patterns = shown_forms()
        desk, seen = started(), {}
        for _ in range(20000):
            line = " ".join(chance.choice(words) for _ in range(chance.randint(1, 6)))
            if chance.random() < 0.8:
                line = chance.choice(["house", "custom", "ask", "hall", "come"]) + " " + line
            try:
                desk.tell(line)
                reason = None
                if not line.startswith("ask"):
                    desk.undo()
            except BadLine as error:
                reason = error.reason
            seen[reason] = seen.get(reason, 0) + 1
            fitting = [pattern for pattern in patterns if re.fullmatch(pattern, line)]
            first = line.split(" ")[0] in ("house", "custom", "hall", "come", "again", "ask")
            self.assertEqual(reason == "word", not first, line)
            self.assertEqual(reason == "form", first and not fitting, line)
        self.assertEqual(set(seen), {None, "word", "form", "name", "taken", "unknown", "value"})

    def test_each_form_has_its_work(self):
        self.assertEqual(sorted(FORMS), sorted([*MAKERS, *MOVERS, *ANSWERS]))
        self.assertEqual(len(FORMS), 23)


class Texts(Case):
    def test_each_line_sees_those_before(self):
        desk = Desk()
        answers = desk.run("house h 2 1 any\ncustom c h most\nhall t c\ncome t ab\nask sits t\ncome t b\nask came t")
        self.assertEqual(answers, ["h", "c", "t", "-b", "1a", "b", "1a+2b"])

    def test_a_text_is_run_all_or_not_at_all(self):
        lines = ["house x 1 1 any", "come t ab", "ask sits t", "hall w c", "again t b", "come t b"]
        for at in range(len(lines) + 1):
            desk = started()
            desk.tell("come t aab")
            before = replies(desk)
            text = "\n".join(lines[:at] + ["come t abcd"] + lines[at:])
            self.fails(BadLine, {"number": at + 1, "reason": "value"}, desk.run, text)
            self.assertEqual(replies(desk), before)
            self.assertEqual(desk.undo(), ["come t aab"])

    def test_the_first_bad_line_is_named(self):
        desk = started()
        self.fails(BadLine, {"number": 2, "reason": "form"}, desk.run, "ask sits t\nask\nnonsense\n")
        self.fails(BadLine, {"number": 1, "reason": "word"}, desk.run, "nonsense\nask\n")

    def test_empty_lines(self):
        desk = started()
        before = replies(desk)
        for text, number in [("", 1), ("\n", 1), ("ask sits t\n", 2), ("\nask sits t", 1), ("ask sits t\n\nask sits t", 2),
                             ("house x 1 1 any\n", 2), ("ask sits t\nask sits t\n", 3)]:
            self.fails(BadLine, {"number": number, "reason": "blanks"}, desk.run, text)
        self.assertEqual(replies(desk), before)

    def test_one_line(self):
        desk = started()
        self.assertEqual(desk.run("ask sits t"), ["0"])
        self.assertEqual(desk.run("come t a"), ["-"])

    def test_a_name_is_taken_within_the_text(self):
        self.fails(BadLine, {"number": 2, "reason": "taken"}, Desk().run, "house x 1 1 any\nhouse x 1 1 any")

    def test_a_changed_list_changes_nothing(self):
        desk = started()
        desk.run("come t a\nask sits t").clear()
        desk.lines.clear()
        self.assertEqual(desk.lines, START + ["come t a"])


class Steps(Case):
    def test_a_new_desk(self):
        desk = Desk()
        self.assertEqual((desk.lines, desk.names), ([], []))
        self.fails(NothingToUndo, {"word": "undo"}, desk.undo)
        self.fails(NothingToUndo, {"word": "redo"}, desk.redo)
        self.assertEqual((desk.lines, desk.names), ([], []))

    def test_undo_and_redo(self):
        desk = Desk()
        for line in START:
            desk.tell(line)
        desk.run("come t aab\nask sits t\nhall w c")
        for many in range(len(START), -1, -1):
            step = desk.undo()
            self.assertEqual(step, ["come t aab", "hall w c"] if many == len(START) else [START[many]])
            self.assertEqual(desk.lines, START[:many])
        self.fails(NothingToUndo, {"word": "undo"}, desk.undo)
        for line in START:
            self.assertEqual(desk.redo(), [line])
        self.assertEqual(desk.redo(), ["come t aab", "hall w c"])
        self.fails(NothingToUndo, {"word": "redo"}, desk.redo)
        self.assertEqual(desk.lines, START + ["come t aab", "hall w c"])
        self.assertEqual(desk.tell("ask sits t"), "2a")

    def test_a_hall_that_is_changed_twice_in_a_step(self):
        desk = started()
        desk.tell("come t b")
        desk.run("come t a\ncome t aa\nagain t b\nhall w c\ncome w b\ncome w b")
        after = replies(desk, ASKS + ["ask sits w", "ask came w"])
        desk.undo()
        self.assertEqual(desk.tell("ask came t"), "1b")
        self.assertNotIn("w", desk.names)
        desk.redo()
        self.assertEqual(replies(desk, ASKS + ["ask sits w", "ask came w"]), after)

    def test_what_is_no_step(self):
        desk = started()
        desk.tell("come t a")
        desk.undo()
        desk.tell("ask sits t")
        desk.run("ask sits t\nask came t")
        for line in ["nonsense", "come t z", "house h 1 1 any", ""]:
            self.assertRaises(BadLine, desk.tell, line)
        self.assertRaises(BadLine, desk.run, "hall w c\nask")
        self.assertEqual(desk.redo(), ["come t a"])
        self.assertEqual(desk.undo(), ["come t a"])
        self.assertEqual(desk.undo(), START)

    def test_a_new_step_ends_what_may_be_done_again(self):
        desk = started()
        desk.tell("come t a")
        desk.tell("come t b")
        desk.undo()
        desk.undo()
        desk.tell("come t bb")
        self.fails(NothingToUndo, {"word": "redo"}, desk.redo)
        self.assertEqual(desk.tell("ask sits t"), "2b")
        desk.undo()
        desk.run("ask sits t\nhall w c")
        self.fails(NothingToUndo, {"word": "redo"}, desk.redo)

    def test_a_line_that_changes_no_seats_is_a_step(self):
        desk = started()
        desk.tell("come t aab")
        self.assertEqual(desk.tell("again t b"), "b")
        self.assertEqual(desk.undo(), ["again t b"])

    def test_a_name_is_free_again(self):
        desk = started()
        desk.undo()
        self.assertEqual(desk.names, [])
        self.assertEqual(desk.tell("house t 1 1 any"), "t")

    def test_a_changed_list_changes_nothing(self):
        desk = started()
        desk.undo().clear()
        self.assertEqual(desk.redo(), START)
        desk.undo()
        desk.redo().clear()
        self.assertEqual(desk.undo(), START)

    def test_two_desks_are_two(self):
        one, other = started(), Desk()
        one.tell("come t a")
        self.assertEqual((other.names, other.lines), ([], []))


class TheSameAsANewDesk(Case):
    def test_random_histories(self):
        chance = random.Random(69)
        pool = ["come t a", "come t ba", "come u a", "come u cab", "again t a", "again t ba", "again u b", "again u c",
                "hall v c", "hall v p", "custom d h most", "custom d h number 3", "custom d then o o", "house e 2 1 any",
                "hall w d", "come w ab", "come v b", "house d 1 1 any", "nonsense", "ask sits t", "ask free d", "come t c",
                "custom f e order a b", "custom d then f f", "again w a"] + START
        for _ in range(40):
            desk = Desk()
            if chance.random() < 0.8:
                desk.run("\n".join(START))
            for _ in range(40):
                word = chance.randint(0, 5)
                try:
                    if word == 0:
                        desk.undo()
                    elif word == 1:
                        desk.redo()
                    elif word < 4:
                        desk.tell(chance.choice(pool))
                    else:
                        desk.run("\n".join(chance.choice(pool) for _ in range(chance.randint(1, 4))))
                except (BadLine, NothingToUndo):
                    pass
            new = Desk()
            for line in desk.lines:
                new.tell(line)
            self.assertEqual(replies(desk, ASKS + ["ask sits w", "ask came v"]),
                             replies(new, ASKS + ["ask sits w", "ask came v"]))

    def test_undone_and_done_again(self):
        desk = started()
        lines = ["come t a", "custom d h most", "come t bab", "hall v d", "again t b", "come v aaab", "again v a"]
        shown = [replies(desk)]
        for line in lines:
            desk.tell(line)
            shown.append(replies(desk))
        for state in shown[-2::-1]:
            desk.undo()
            self.assertEqual(replies(desk), state)
        for state in shown[1:]:
            desk.redo()
            self.assertEqual(replies(desk), state)

    def test_a_long_history(self):
        desk = started()
        for at in range(1500):
            desk.tell("come t " + "ab"[at * at % 3 % 2])
        self.assertEqual(len(desk.lines), 1500 + len(START))
        for _ in range(1500):
            desk.undo()
        self.assertEqual(desk.tell("ask came t"), "0")
        self.assertEqual(desk.lines, START)


if __name__ == "__main__":
    unittest.main()
