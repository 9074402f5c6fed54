"""Two cards compared: three people from whom they send away different people."""

from itertools import combinations

from fewchairs.errors import WrongHouse


def three_parting(one, other):
    """The ascending list of three people from whom the cards send away different people, or None."""
    if one.people != other.people:
        raise WrongHouse("kinds")
    # Different cards always differ about some three people.
    if one == other:
        return None
    for three in combinations(range(one.people), 3):
        if one.goes(list(three)) != other.goes(list(three)):
            return list(three)
    return None
