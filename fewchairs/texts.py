"""Crowds, rows and customs written as texts, and read from them."""

from fewchairs.customs import Custom
from fewchairs.errors import BadText, HallError
from fewchairs.houses import House
from fewchairs.runs import steps

# The kinds 0 to 5 are a to f; no house has the others.
LETTERS = "abcdefghijklmnopqrstuvwxyz"
DIGITS = "0123456789"
MOST_DIGITS = 40


def is_number(text):
    """Whether the text is the written form of a number."""
    return (1 <= len(text) <= MOST_DIGITS and all([sign in DIGITS for sign in text])
            and (text == "0" or text[0] != "0"))


def write_crowd(crowd):
    """The text of the crowd."""
    return "+".join([f"{count}{LETTERS[kind]}" for kind, count in enumerate(crowd) if count > 0]) or "0"


def read_crowd(kinds, text):
    """The crowd of so many kinds whose text this is."""
    counts = [0] * kinds
    if text == "0":
        return tuple(counts)
    for word in text.split("+"):
        number, letter = word[:-1], word[-1:]
        if not is_number(number) or letter not in LETTERS[:kinds]:
            raise BadText(text)
        counts[LETTERS.index(letter)] = int(number)
    # Kinds that are not ascending, and counts of 0, are not written so.
    if write_crowd(counts) != text:
        raise BadText(text)
    return tuple(counts)


def write_row(row):
    """The text of the row."""
    return "".join([LETTERS[kind] for kind in row]) or "-"


def read_row(kinds, text):
    """The row of so many kinds whose text this is."""
    if text == "-":
        return []
    if text == "" or not all([letter in LETTERS[:kinds] for letter in text]):
        raise BadText(text)
    return [LETTERS.index(letter) for letter in text]


def write_custom(custom):
    """The text of the custom."""
    house = custom.house
    most = ["any"]
    if house.most != (House.MANY,) * house.kinds:
        most = ["most"] + [str(bound) for bound in house.most]
    return " ".join([str(house.kinds), str(house.chairs)] + most + ["goes", write_row(custom.answers)])


def read_custom(text):
    """The custom whose text this is."""
    words = text.split(" ")
    if len(words) < 5 or not all([is_number(word) for word in words[:2] + words[3:-2]]):
        raise BadText(text)
    try:
        custom = _custom_of(words)
    except HallError:
        raise BadText(text) from None
    # The words between the numbers are looked at by writing them once more.
    if write_custom(custom) != text:
        raise BadText(text)
    return custom


def show_steps(custom, row):
    """The list of the lines that show what happens at each guest of the row."""
    lines = []
    for at, (goes, sitting) in enumerate(steps(custom, row)):
        sign = goes_sign(goes)
        lines.append(f"{at + 1:>3} {LETTERS[row[at]]} {sign} {write_crowd(sitting):>17}")
    return lines


def goes_sign(goes):
    """The letter of the kind that goes, or - if nobody does."""
    return "-" if goes is None else LETTERS[goes]


def _custom_of(words):
    """The custom that the numbers and letters of the words tell; raises errors if there is none."""
    house = House(int(words[0]), int(words[1]), most=tuple([int(word) for word in words[3:-2]]))
    return Custom(house, read_row(house.kinds, words[-1]))
