"""Calm crowds: those within which the order of coming does not count."""

from fewchairs.crowds import parts
from fewchairs.look import passes


def trouble(custom, crowd):
    """The first group within the crowd at which the custom does not pass the look, or None."""
    custom.house.check(crowd)
    number = custom.house.chairs + 2
    for group in parts(crowd, number):
        if not passes(custom, group):
            return group
    return None
