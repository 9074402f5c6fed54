"""Halls in a row: whoever goes from a hall comes to the next one."""

from fewchairs.checks import check_guests
from fewchairs.crowds import minus


def held(crowd, *rules):
    """The list of the crowds that the halls hold, and last the crowd of those who went home."""
    check_guests(rules)
    crowds = []
    rest = crowd
    for rule in rules:
        crowds.append(rule.end(rest))
        rest = minus(rest, crowds[-1])
    return crowds + [rest]
