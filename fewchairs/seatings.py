"""Seatings: the ends of the small crowds of a house, from which an order-free custom can be made."""

from fewchairs.checks import is_seated
from fewchairs.crowds import lesser, minus, one_more
from fewchairs.customs import Custom
from fewchairs.errors import BadSeats, Clash
from fewchairs.rules import Rule


def rule_table(rule):
    """The list of the pairs of each small crowd and its end."""
    return [(crowd, rule.end(crowd)) for crowd in rule.house.small_crowds()]


def rule_from(house, seats):
    """The rule whose ends of the small crowds are the seating."""
    small = house.small_crowds()
    for crowd in small:
        if crowd not in seats or not is_seated(house.chairs, crowd, seats[crowd]):
            raise BadSeats(crowd)
    known = {crowd: True for crowd in small}
    for crowd in seats:
        if crowd not in known:
            raise BadSeats(crowd)
    for crowd in small:
        _check_clash(crowd, seats)
    return Rule(Custom(house, [_unseated(house, meeting, seats) for meeting in house.meetings()]))


def _check_clash(crowd, seats):
    """Raises Clash with the first clash of the small crowd and one with a guest more."""
    for kind in range(len(crowd)):
        more = one_more(crowd, kind)
        # No seats are known for a crowd that is no longer small.
        if more in seats:
            for other, count in enumerate(crowd):
                if seats[crowd][other] < min(count, seats[more][other]):
                    raise Clash(crowd, kind, other)


def _unseated(house, meeting, seats):
    """The kind of which the meeting has one guest more than the end of its small crowd."""
    end = seats[lesser(meeting, (house.chairs,) * house.kinds)]
    return minus(meeting, end).index(1)
