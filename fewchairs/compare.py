"""Two rules compared: which one leaves fewer guests, and whose ends are within the other's."""

from fewchairs.checks import check_guests, check_kind
from fewchairs.crowds import within


def never_fewer(first, second, kind):
    """The first meeting of the first house of which the first rule leaves fewer of the kind, or None."""
    check_guests([first, second])
    check_kind(first.house, kind)
    for meeting, goes in first.custom.table().items():
        if goes == kind and second.end(meeting)[kind] == meeting[kind]:
            return meeting
    return None


def not_inside(first, second):
    """The first meeting of the second house whose end by the first rule is not within the other one, or None."""
    check_guests([first, second])
    for meeting in second.house.meetings():
        if not within(first.end(meeting), second.end(meeting)):
            return meeting
    return None
