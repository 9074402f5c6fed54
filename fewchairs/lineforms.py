"""The lines that a desk understands, by their forms.

A form shows the words of a line. Those in capital letters stand for something that is told; NUMBERS and KINDS
for one or more of them. A desk knows things by their names: a dict from each name to the pair of its sort, one
of HOUSE, CUSTOM and HALL, and the thing. The thing of a hall is the tuple of its custom, the crowd that came and
the crowd that sits.
"""

from fewchairs.errors import BadLine, BadText
from fewchairs.texts import LETTERS, is_number, read_crowd, read_row

FIRST_WORDS = ("house", "custom", "hall", "come", "again", "ask")
LANGUAGE = ("house", "custom", "hall", "come", "again", "ask", "any", "most", "order", "fewest", "middle", "number",
            "answers", "then", "goes", "free", "end", "floor", "ends", "sure", "same", "came", "sits", "away")
LONGEST_NAME = 12
# A line with the words of two forms has the first one.
FORMS = (
    "house NAME NUMBER NUMBER any",
    "house NAME NUMBER NUMBER most NUMBERS",
    "custom NAME HOUSE order KINDS",
    "custom NAME HOUSE most",
    "custom NAME HOUSE fewest",
    "custom NAME HOUSE middle",
    "custom NAME HOUSE number NUMBER",
    "custom NAME HOUSE answers ROW",
    "custom NAME then CUSTOM CUSTOM",
    "hall NAME CUSTOM",
    "come HALL ROW",
    "again HALL ROW",
    "ask goes CUSTOM CROWD",
    "ask free CUSTOM",
    "ask end CUSTOM CROWD",
    "ask floor CUSTOM CROWD",
    "ask ends CUSTOM CROWD",
    "ask sure CUSTOM",
    "ask number CUSTOM",
    "ask same CUSTOM CUSTOM",
    "ask came HALL",
    "ask sits HALL",
    "ask away HALL",
)


def form_of(number, line):
    """The form of the line with this number."""
    words = line.split(" ")
    if "" in words or not all([" " <= sign <= "~" for sign in line]):
        raise BadLine(number, "blanks")
    if words[0] not in FIRST_WORDS:
        raise BadLine(number, "word")
    for form in FORMS:
        if _has_form(form.split(" "), words):
            return form
    raise BadLine(number, "form")


def told_by(number, form, line, things):
    """The list of what those words of the line mean that its form shows in capital letters."""
    shown = form.split(" ")
    told = []
    kinds = 0
    for at, word in enumerate(line.split(" ")):
        # What the form shows last stands for all further words.
        sort = shown[min(at, len(shown) - 1)]
        if sort == "NAME":
            _check_name(number, word, things)
            told.append(word)
        elif sort in ("HOUSE", "CUSTOM", "HALL"):
            told.append(_thing(number, sort, word, things))
            kinds = _kinds_of(sort, told[-1])
        elif sort.isupper():
            told.append(_read(number, sort, word, kinds))
    return told


def _has_form(shown, words):
    """Whether the words are those that the form shows; words in capital letters may be anything."""
    if shown[-1] in ("NUMBERS", "KINDS"):
        right = len(words) >= len(shown)
    else:
        right = len(words) == len(shown)
    return right and all([part.isupper() or part == word for part, word in zip(shown, words)])


def _check_name(number, word, things):
    """Raises BadLine if the word may not be given as a name."""
    if len(word) > LONGEST_NAME or not all([sign in LETTERS for sign in word]) or word in LANGUAGE:
        raise BadLine(number, "name")
    if word in things:
        raise BadLine(number, "taken")


def _thing(number, sort, word, things):
    """The thing of this sort that has the name."""
    if word not in things or things[word][0] != sort:
        raise BadLine(number, "unknown")
    return things[word][1]


def _kinds_of(sort, thing):
    """How many kinds the house of the thing has."""
    if sort == "HOUSE":
        return thing.kinds
    custom = thing if sort == "CUSTOM" else thing[0]
    return custom.house.kinds


def _read(number, sort, word, kinds):
    """The number, the crowd, the row or the kind that the word writes."""
    try:
        return _value(sort, word, kinds)
    except BadText:
        raise BadLine(number, "value") from None


def _value(sort, word, kinds):
    """What the word writes; raises BadText if it is not written so."""
    if sort == "CROWD":
        return read_crowd(kinds, word)
    if sort in ("NUMBER", "NUMBERS"):
        if not is_number(word):
            raise BadText(word)
        return int(word)
    row = read_row(kinds, word)
    if sort == "ROW":
        if not row:
            raise BadText(word)
        return row
    if len(row) != 1:
        raise BadText(word)
    return row[0]
