"""Floors: what every row of a crowd leaves at least."""

from fewchairs.checks import check_kind
from fewchairs.crowds import parts


def floor(custom, crowd):
    """The floor of the custom for the crowd."""
    custom.house.check(crowd)
    number = custom.house.chairs + 1
    counts = list(crowd)
    for meeting in parts(crowd, number):
        goes = custom.who_goes(meeting)
        counts[goes] = min(counts[goes], meeting[goes] - 1)
    return tuple(counts)


def floor_meeting(custom, crowd, kind):
    """The first meeting with the least count of the kind that sends the kind away, or None."""
    custom.house.check(crowd)
    check_kind(custom.house, kind)
    number = custom.house.chairs + 1
    sending = [meeting for meeting in parts(crowd, number) if custom.who_goes(meeting) == kind]
    return min(sending, key=lambda found: found[kind], default=None)
