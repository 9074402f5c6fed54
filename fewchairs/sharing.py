"""The shares of a custom of three kinds, and the custom of shares."""

from fewchairs.checks import check_wide
from fewchairs.crowds import with_count
from fewchairs.customs import Custom
from fewchairs.errors import TooLarge
from fewchairs.houses import House
from fewchairs.rules import Rule
from fewchairs.shares import Shares, others


def shares_of(custom):
    """The shares that send away the same kinds as the custom."""
    check_wide(3, custom.house)
    rule = Rule(custom)
    return Shares.spelled(_word(rule, 0), _word(rule, 1), _word(rule, 2))


def custom_of_shares(shares):
    """The custom that sends away the same kinds as the shares."""
    if shares.chairs > House.CHAIRS:
        raise TooLarge(shares.chairs)
    house = House(3, shares.chairs)
    return Custom(house, [shares.goes(meeting) for meeting in house.meetings()])


def _word(rule, kind):
    """The list of the letters of the kind: who gets its chairs, one after the other, if it lacks guests."""
    counts = list(range(rule.sure[kind] + 1))[::-1]
    ends = [rule.end(with_count(rule.house.most, kind, count)) for count in counts]
    return [_gainer(kind, before, after) for before, after in zip(ends, ends[1:])]


def _gainer(kind, before, after):
    """The other kind that has more in the end after than in the end before."""
    other, third = others(kind)
    if after[other] > before[other]:
        return other
    return third
