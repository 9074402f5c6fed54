"""The ends of a crowd: the crowds that its rows leave, and how many rows leave each."""

from math import gcd

from fewchairs.checks import check_kind
from fewchairs.crowds import kinds_in, lesser, minus, one_less, one_more, parts, size
from fewchairs.errors import NoSuchEnd, TooLarge
from fewchairs.runs import arrive

MOST_GUESTS = 10


def ends(custom, crowd):
    """The list of the pairs (crowd left, number of rows), crowds ascending."""
    _check_crowd(custom, crowd)
    numbers = _ways(custom, crowd)[crowd]
    return [(end, numbers[end]) for end in sorted(numbers)]


def row_to(custom, crowd, end):
    """The first of the rows that leave the end, in the order of lists."""
    _check_crowd(custom, crowd)
    ways = _ways(custom, crowd)
    if end not in ways[crowd]:
        raise NoSuchEnd(end)
    # From each state that leads to the end: the first row of the guests still to come.
    rows = {(crowd, end): []}
    for number in reversed(range(size(crowd))):
        for came in parts(crowd, number):
            for sitting in ways[came]:
                row = _row_on(custom, minus(crowd, came), came, sitting, rows)
                if row is not None:
                    rows[(came, sitting)] = row
    nobody = (0,) * len(crowd)
    return rows[(nobody, nobody)]


def chance(custom, crowd, kind, number):
    """The chance that at least so many guests of the kind are left, in lowest terms."""
    _check_crowd(custom, crowd)
    check_kind(custom.house, kind)
    found = ends(custom, crowd)
    every = sum([rows for _, rows in found])
    enough = sum([rows for end, rows in found if end[kind] >= number])
    common = gcd(enough, every)
    return (enough // common, every // common)


def surely(custom, crowd):
    """The crowd of the least number of each kind that any row of the crowd leaves."""
    least = crowd
    for end, _ in ends(custom, crowd):
        least = lesser(least, end)
    return least


def _check_crowd(custom, crowd):
    """Raises BadCrowd or TooLarge if the crowd is none or too large."""
    custom.house.check(crowd)
    if size(crowd) > MOST_GUESTS:
        raise TooLarge(size(crowd))


def _ways(custom, crowd):
    """For each crowd that may have come so far a dict from each crowd that may sit to its rows."""
    nobody = (0,) * len(crowd)
    ways = {nobody: {nobody: 1}}
    for number in range(1, size(crowd) + 1):
        for came in parts(crowd, number):
            ways[came] = _ways_to(custom, ways, came)
    return ways


def _ways_to(custom, ways, came):
    """A dict from each crowd that may sit to the number of the rows of the crowd that came."""
    numbers = {}
    for kind in kinds_in(came):
        before = ways[one_less(came, kind)]
        for sitting in before:
            _, sits = arrive(custom, sitting, kind)
            numbers[sits] = numbers.get(sits, 0) + before[sitting]
    return numbers


def _row_on(custom, missing, came, sitting, rows):
    """The first row of the missing guests that leads from here to the end, or None."""
    for kind in kinds_in(missing):
        _, sits = arrive(custom, sitting, kind)
        state = (one_more(came, kind), sits)
        if state in rows:
            return [kind] + rows[state]
    return None
