"""Four customs that are given by plain rules."""

from fewchairs.checks import check_order
from fewchairs.crowds import kinds_in, row_of
from fewchairs.customs import Custom


def order_custom(house, order):
    """The custom by an order: the kind that stands last in the order goes."""
    check_order(house.kinds, order)
    return Custom(house, [_last_of(order, meeting) for meeting in house.meetings()])


def most_custom(house):
    """The custom by the most: the kind with the greatest count goes."""
    return Custom(house, [_greatest_of(meeting) for meeting in house.meetings()])


def fewest_custom(house):
    """The custom by the fewest: the kind with the least count goes."""
    return Custom(house, [_least_of(meeting) for meeting in house.meetings()])


def middle_custom(house):
    """The custom by the middle: the guest in the middle of the ascending row goes."""
    middle = (house.chairs + 1) // 2
    return Custom(house, [row_of(meeting)[middle] for meeting in house.meetings()])


def _last_of(order, meeting):
    """The kind in the meeting that stands last in the order."""
    return [kind for kind in order if meeting[kind] > 0][-1]


def _greatest_of(meeting):
    """The kind with the greatest count, the greatest of several such kinds."""
    return max(kinds_in(meeting), key=lambda kind: (meeting[kind], kind))


def _least_of(meeting):
    """The kind in the meeting with the least count, the greatest of several such kinds."""
    return min(kinds_in(meeting), key=lambda kind: (meeting[kind], -kind))
