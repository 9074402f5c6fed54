"""Runs: the guests of a row come in turn to an empty hall."""

from fewchairs.checks import check_kind
from fewchairs.crowds import one_less, one_more, size
from fewchairs.errors import TooManyOf


def check_guest(house, came, kind):
    """Raises BadKind or TooManyOf if no guest of the kind may come after the crowd that came."""
    check_kind(house, kind)
    if came[kind] >= house.most[kind]:
        raise TooManyOf(kind)


def arrive(custom, sitting, kind):
    """The pair of the kind that goes, or None, and the crowd that sits afterwards."""
    standing = one_more(sitting, kind)
    if size(sitting) < custom.house.chairs:
        return None, standing
    goes = custom.who_goes(standing)
    return goes, one_less(standing, goes)


def steps(custom, row):
    """The list of the pairs that the guests of the row lead to, as of `arrive`."""
    came = (0,) * custom.house.kinds
    sitting = came
    taken = []
    for kind in row:
        check_guest(custom.house, came, kind)
        came = one_more(came, kind)
        goes, sitting = arrive(custom, sitting, kind)
        taken.append((goes, sitting))
    return taken


def left(custom, row):
    """The crowd that the run of the row leaves."""
    taken = steps(custom, row)
    if not taken:
        return (0,) * custom.house.kinds
    return taken[-1][1]
