"""Texts: point [65] and the heading fewchairs/texts.py."""

import itertools
import unittest

from fewchairs.customs import Custom
from fewchairs.errors import BadKind, BadText, TooManyOf
from fewchairs.houses import House
from fewchairs.makers import fewest_custom, middle_custom, most_custom, order_custom
from fewchairs.runs import steps
from fewchairs.texts import read_crowd, read_custom, read_row, show_steps, write_crowd, write_custom, write_row
from tests.helpers import MANY, SMALL_HOUSES, Case, all_crowds, all_customs, all_rows

# All signs that texts may have.
SIGNS = [chr(code) for code in range(32, 127)] + ["\n", "\t"]
DIGITS_40 = "1234567890" * 4
DIGITS_41 = "1" + "0" * 40


class Crowds(Case):
    def wrong(self, kinds, text):
        self.fails(BadText, {"text": text}, read_crowd, kinds, text)

    def test_some_crowds(self):
        for crowd, text in [((2, 0, 1), "2a+1c"), ((0, 0, 0), "0"), ((0,), "0"), ((5,), "5a"), ((0, 0, 0, 0, 0, 7), "7f"),
                            ((1, 2, 3, 4, 5, 6), "1a+2b+3c+4d+5e+6f"), ((0, MANY), "1000000000000000000b"),
                            ((10, 0, 100), "10a+100c"), ((int(DIGITS_40), 1), DIGITS_40 + "a+1b")]:
            self.assertEqual(write_crowd(crowd), text)
            self.assertEqual(read_crowd(len(crowd), text), crowd)

    def test_there_and_back(self):
        for bound in [(12,), (3, 2), (2, 11, 1), (1,) * 6]:
            texts = set()
            for crowd in all_crowds(bound):
                text = write_crowd(crowd)
                texts.add(text)
                self.assertEqual(read_crowd(len(bound), text), crowd)
            self.assertEqual(len(texts), len(all_crowds(bound)))

    def test_all_short_texts(self):
        signs = "01+ab-"
        written = {write_crowd(crowd) for crowd in all_crowds((111, 111))}
        for number in range(5):
            for text in map("".join, itertools.product(signs, repeat=number)):
                if text in written:
                    self.assertEqual(write_crowd(read_crowd(2, text)), text)
                elif not any(text.endswith(kind) and text[:-1].isdigit() and text[0] != "0" for kind in "ab"):
                    self.wrong(2, text)

    def test_all_texts_of_one_and_two_signs(self):
        for text in SIGNS:
            if text != "0":
                self.wrong(6, text)
        for text in map("".join, itertools.product(SIGNS, repeat=2)):
            if text[0] in "123456789" and text[1] in "abcdef":
                self.assertEqual(write_crowd(read_crowd(6, text)), text)
            else:
                self.wrong(6, text)

    def test_wrong_texts(self):
        for text in ["", "00", "0a", "0a+1b", "01a", "1a+02b", "+1a", "-1a", "1a+", "1a++1b", "1a 1b", " 1a", "1a ",
                     "1a+1a", "1b+1a", "2a+1a", "1d", "1a+1d", "1A", "a", "1", "a1", "1a1b", "1ab", "1a,1b", "1a\n",
                     "\n1a", "1a+\t1b", "1_0a", "1.0a", "1e5a", "0+1a", "1a+0", "-", DIGITS_41 + "a",
                     "1a+" + DIGITS_41 + "b", DIGITS_40 + "0c", "0" * 40 + "a", "1" * 5000 + "a", "0x1a", "+"]:
            self.wrong(3, text)
        self.wrong(1, "1b")
        self.wrong(5, "1f")
        self.wrong(6, "1g")

    def test_zeros_of_other_numbers_of_kinds(self):
        for kinds in range(1, 7):
            self.assertEqual(read_crowd(kinds, "0"), (0,) * kinds)


class Rows(Case):
    def wrong(self, kinds, text):
        self.fails(BadText, {"text": text}, read_row, kinds, text)

    def test_some_rows(self):
        for row, text in [([0, 2, 0], "aca"), ([], "-"), ([5], "f"), ([0] * 50, "a" * 50),
                          ([5, 4, 3, 2, 1, 0], "fedcba")]:
            self.assertEqual(write_row(row), text)
            self.assertEqual(read_row(6, text), row)

    def test_there_and_back(self):
        for row in all_rows((2, 1, 2)) + all_rows((0, 3)) + [[]]:
            self.assertEqual(read_row(3, write_row(row)), row)

    def test_all_texts_of_one_and_two_signs(self):
        for kinds in (1, 3, 6):
            for text in SIGNS + list(map("".join, itertools.product(SIGNS, repeat=2))):
                if all(sign in "abcdef"[:kinds] for sign in text) or text == "-":
                    self.assertEqual(write_row(read_row(kinds, text)), text)
                else:
                    self.wrong(kinds, text)

    def test_wrong_texts(self):
        for text in ["", "ad", "da", "a b", "a-", "-a", "--", " a", "a ", "A", "a1", "a\n", "a+b", "aag"]:
            self.wrong(3, text)
        for kinds in range(1, 6):
            self.wrong(kinds, "a" + "abcdef"[kinds])

    def test_results_and_arguments_do_not_count(self):
        row = [0, 1]
        write_row(row)
        self.assertEqual(row, [0, 1])
        read_row(2, "ab").clear()
        read_row(2, "-").append(1)
        self.assertEqual((read_row(2, "ab"), read_row(2, "-")), ([0, 1], []))


class Customs(Case):
    def wrong(self, text):
        self.fails(BadText, {"text": text}, read_custom, text)

    def test_some_customs(self):
        for custom, text in [
                (Custom(House(2, 2), [1, 0, 1, 0]), "2 2 any goes baba"),
                (Custom(House(1, 5), [0]), "1 5 any goes a"),
                (Custom(House(2, 1, most=(1, 1)), [1]), "2 1 most 1 1 goes b"),
                (Custom(House(2, 2, most=(1, 1)), []), "2 2 most 1 1 goes -"),
                (Custom(House(2, 1, most=(MANY, 3)), [1, 1, 0]), "2 1 most 1000000000000000000 3 goes bba"),
                (Custom(House(1, 1, most=(MANY,)), [0]), "1 1 any goes a")]:
            self.assertEqual(write_custom(custom), text)
            self.assertTrue(read_custom(text) == custom)

    def test_there_and_back(self):
        for house in SMALL_HOUSES:
            for custom in all_customs(house)[::3]:
                self.assertTrue(read_custom(write_custom(custom)) == custom)
        for custom in [most_custom(House(6, 5)), fewest_custom(House(6, 5, most=(1, 2, 3, 4, 5, MANY))),
                       middle_custom(House(5, 4)), order_custom(House.unlike(6, 3), [5, 1, 2, 0, 4, 3])]:
            text = write_custom(custom)
            self.assertTrue(read_custom(text) == custom)
            self.assertEqual(text.split(" ")[-1], write_row(list(custom.answers)))

    def test_each_sign_counts(self):
        texts = ["2 1 any goes bba", "2 1 most 2 1 goes ba"]
        for text in texts:
            for at in range(len(text) + 1):
                shorter = text[:at] + text[at + 1:]
                for other in [text[:at] + sign + text[at:] for sign in "01a9 -"] + [shorter]:
                    try:
                        self.assertEqual(write_custom(read_custom(other)), other)
                    except BadText as error:
                        self.assertEqual(error.text, other)

    def test_wrong_texts(self):
        for text in ["", " ", "2 2 any goes", "2 2 any goes ", "2 2 any goes bab", "2 2 any goes babaa",
                     "2 2 any goes caba", "2 2 any goes aaba", "2 2 any goes -", "2 2 any went baba",
                     "2 2 all goes baba", "2 2 goes baba", "2 2 any goes ba ba", "2  2 any goes baba",
                     " 2 2 any goes baba", "2 2 any goes baba ", "2 2 any goes baba\n", "2\t2 any goes baba",
                     "02 2 any goes baba", "2 02 any goes baba", "+2 2 any goes baba", "0 2 any goes -",
                     "7 2 any goes -", "2 0 any goes -", "2 6 any goes -", "-1 2 any goes -",
                     "2 1 most 1 goes b", "2 1 most 1 1 1 goes b", "2 1 most goes b", "2 1 most 0 1 goes -",
                     "2 1 most 1 01 goes b", "2 1 most 1 1 goes -", "2 1 any 1 1 goes b", "2 1 most 1 1 any b",
                     "2 1 most 1000000000000000001 1 goes bb", "1 1 most 1000000000000000000 goes a",
                     "2 1 most 1000000000000000000 1000000000000000000 goes bba",
                     "2 2 most 1 1 goes", "2 1 most 1 x goes b", "two 1 any goes a", DIGITS_41 + " 1 any goes a",
                     "1 " + DIGITS_40 + " any goes a", DIGITS_40 + " 1 any goes a",
                     "1 1 most " + DIGITS_40 + " goes a", "1 1 most " + DIGITS_41 + " goes a", "2 2 Any goes baba",
                     "2 2 any goes BABA", "2 2 any Goes baba", "goes", "2 2", "1 1 any goes a 1 1 any goes a"]:
            self.wrong(text)


class Shown(Case):
    def test_some_steps(self):
        custom = most_custom(House(2, 2))
        self.assertEqual(show_steps(custom, [0, 0, 1]), ["  1 a -                1a", "  2 a -                2a",
                                                        "  3 b a             1a+1b"])
        self.assertEqual(show_steps(custom, []), [])

    def test_what_is_longer_is_written_in_full(self):
        custom = order_custom(House(6, 5), [0, 1, 2, 3, 4, 5])
        lines = show_steps(custom, [0, 1, 2, 3, 4, 5] + [5] * 1000)
        self.assertEqual(lines[4], "  5 e -    1a+1b+1c+1d+1e")
        self.assertEqual(lines[99], "100 f f    1a+1b+1c+1d+1e")
        self.assertEqual(lines[998], "999 f f    1a+1b+1c+1d+1e")
        self.assertEqual(lines[999], "1000 f f    1a+1b+1c+1d+1e")
        self.assertEqual(len(lines), 1006)

    def test_as_the_steps(self):
        for house in SMALL_HOUSES:
            for custom in all_customs(house)[::40]:
                for row in all_rows(house.most)[::7]:
                    lines = show_steps(custom, row)
                    self.assertEqual(len(lines), len(row))
                    for at, (goes, sitting) in enumerate(steps(custom, row)):
                        sign = "-" if goes is None else "abcdef"[goes]
                        line = " ".join([str(at + 1).rjust(3), "abcdef"[row[at]], sign,
                                         write_crowd(sitting).rjust(17)])
                        self.assertEqual(lines[at], line)

    def test_wrong_rows(self):
        custom = fewest_custom(House(2, 1, most=(1, 2)))
        for kind in (-1, 2, MANY):
            self.fails(BadKind, {"kind": kind}, show_steps, custom, [0, kind, 0])
        self.fails(TooManyOf, {"kind": 0}, show_steps, custom, [0, 1, 0, 5])
        self.fails(TooManyOf, {"kind": 1}, show_steps, custom, [1, 1, 1])

    def test_the_row_stays(self):
        row = [0, 1]
        show_steps(most_custom(House(2, 1)), row).clear()
        self.assertEqual(row, [0, 1])


if __name__ == "__main__":
    unittest.main()
