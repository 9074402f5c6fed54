"""Crowds that are known by halves: they lie between a low and a high crowd."""

from fewchairs.checks import check_kind
from fewchairs.crowds import with_count, within
from fewchairs.errors import BadCrowd


def range_of(rule, low, high, kind):
    """The tuple (fewest, crowd, most, crowd) of how many guests of the kind are left of crowds between."""
    _check_between(rule, low, high)
    check_kind(rule.house, kind)
    against = with_count(high, kind, low[kind])
    beside = with_count(low, kind, high[kind])
    return (rule.end(against)[kind], against, rule.end(beside)[kind], beside)


def crowd_with(rule, low, high, kind, number):
    """A crowd between of which just so many guests of the kind are left, or None."""
    _check_between(rule, low, high)
    check_kind(rule.house, kind)
    for crowd in _way(rule.house.chairs, low, high, kind):
        if rule.end(crowd)[kind] == number:
            return crowd
    return None


def one_end(rule, low, high):
    """The tuple ("same", end) if all crowds between have one end, or ("part", first, second)."""
    for kind in range(rule.house.kinds):
        fewest, against, most, beside = range_of(rule, low, high, kind)
        if fewest < most:
            return ("part", against, beside)
    return ("same", rule.end(low))


def _check_between(rule, low, high):
    """Raises BadCrowd if low or high is no crowd of the house, or low is not within high."""
    rule.house.check(low)
    rule.house.check(high)
    if not within(low, high):
        raise BadCrowd(low)


def _way(chairs, low, high, kind):
    """Crowds from the one with the fewest left of the kind to one with the most, no number left out."""
    crowd = with_count(high, kind, low[kind])
    way = []
    for other in [kind] + [found for found in range(len(low)) if found != kind]:
        # Counts above the chairs change no end.
        counts = list(range(low[other], min(high[other], max(low[other], chairs)) + 1))
        for count in counts if other == kind else counts[::-1]:
            crowd = with_count(crowd, other, count)
            way.append(crowd)
    return way
