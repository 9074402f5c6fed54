"""What the lines of a desk do: each function is given the list of what the words of a line mean."""

from fewchairs.crowds import minus, one_more
from fewchairs.customnumbers import custom_at, number_of
from fewchairs.customs import Custom
from fewchairs.ends import ends
from fewchairs.errors import NobodyAway
from fewchairs.floors import floor
from fewchairs.houses import House
from fewchairs.judge import judge
from fewchairs.makers import fewest_custom, middle_custom, most_custom, order_custom
from fewchairs.rules import Rule
from fewchairs.runs import arrive, check_guest
from fewchairs.texts import LETTERS, goes_sign, write_crowd, write_row


def done(form, told):
    """The pair of the answer and of the thing that is made or changed, which is None for an ask."""
    if form in MAKERS:
        maker = MAKERS[form]
        return told[0], maker(told)
    if form in MOVERS:
        mover = MOVERS[form]
        return mover(told)
    answerer = ANSWERS[form]
    return answerer(told), None


def _house(told):
    """The house with the kinds, the chairs and, if they are told, the most of each kind."""
    return House(told[1], told[2], most=tuple(told[3:]))


def _by_order(told):
    """The custom by the order."""
    return order_custom(told[1], told[2:])


def _by_most(told):
    """The custom by the most."""
    return most_custom(told[1])


def _by_fewest(told):
    """The custom by the fewest."""
    return fewest_custom(told[1])


def _by_middle(told):
    """The custom by the middle."""
    return middle_custom(told[1])


def _by_number(told):
    """The custom with the number."""
    return custom_at(told[1], told[2])


def _by_answers(told):
    """The custom with the answers."""
    return Custom(told[1], told[2])


def _in_a_row(told):
    """The custom of two halls in a row."""
    return (Rule(told[1]) >> Rule(told[2])).custom


def _hall(told):
    """The hall with the custom and without guests."""
    nobody = (0,) * told[1].house.kinds
    return (told[1], nobody, nobody)


def _come(told):
    """The pair of the signs of the guests who come and of the hall afterwards."""
    (custom, came, sitting), row = told
    signs = []
    for kind in row:
        check_guest(custom.house, came, kind)
        came = one_more(came, kind)
        goes, sitting = arrive(custom, sitting, kind)
        signs.append(goes_sign(goes))
    return "".join(signs), (custom, came, sitting)


def _again(told):
    """The pair of the signs of the guests who come again and of the hall afterwards."""
    (custom, came, sitting), row = told
    signs = []
    for kind in row:
        if minus(came, sitting)[kind] == 0:
            raise NobodyAway(kind)
        goes, sitting = arrive(custom, sitting, kind)
        signs.append(goes_sign(goes))
    return "".join(signs), (custom, came, sitting)


def _goes(told):
    """The letter of the kind that goes from the meeting."""
    return LETTERS[told[0].who_goes(told[1])]


def _free(told):
    """Whether the custom is order-free, or two rows that tell that it is not."""
    certificate = judge(told[0])
    if certificate[0] == "free":
        return "free"
    return f"bound {write_row(certificate[2])} {write_row(certificate[3])}"


def _end(told):
    """The end of the crowd."""
    return write_crowd(Rule(told[0]).end(told[1]))


def _floor(told):
    """The floor of the crowd."""
    return write_crowd(floor(told[0], told[1]))


def _ends(told):
    """The ends of the crowd with the numbers of their rows."""
    return " ".join([f"{write_crowd(end)}:{rows}" for end, rows in ends(told[0], told[1])])


def _sure(told):
    """The sure chairs."""
    return write_crowd(Rule(told[0]).sure)


def _number(told):
    """The number of the custom."""
    return str(number_of(told[0]))


def _same(told):
    """Whether the customs are equal."""
    return "same" if told[0] == told[1] else "differ"


def _came(told):
    """The crowd that came."""
    return write_crowd(told[0][1])


def _sits(told):
    """The crowd that sits."""
    return write_crowd(told[0][2])


def _away(told):
    """The crowd that is away."""
    return write_crowd(minus(told[0][1], told[0][2]))


MAKERS = {
    "house NAME NUMBER NUMBER any": _house,
    "house NAME NUMBER NUMBER most NUMBERS": _house,
    "custom NAME HOUSE order KINDS": _by_order,
    "custom NAME HOUSE most": _by_most,
    "custom NAME HOUSE fewest": _by_fewest,
    "custom NAME HOUSE middle": _by_middle,
    "custom NAME HOUSE number NUMBER": _by_number,
    "custom NAME HOUSE answers ROW": _by_answers,
    "custom NAME then CUSTOM CUSTOM": _in_a_row,
    "hall NAME CUSTOM": _hall,
}
MOVERS = {"come HALL ROW": _come, "again HALL ROW": _again}
ANSWERS = {
    "ask goes CUSTOM CROWD": _goes,
    "ask free CUSTOM": _free,
    "ask end CUSTOM CROWD": _end,
    "ask floor CUSTOM CROWD": _floor,
    "ask ends CUSTOM CROWD": _ends,
    "ask sure CUSTOM": _sure,
    "ask number CUSTOM": _number,
    "ask same CUSTOM CUSTOM": _same,
    "ask came HALL": _came,
    "ask sits HALL": _sits,
    "ask away HALL": _away,
}
