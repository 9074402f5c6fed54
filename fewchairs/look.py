"""The look of a custom at a group: who goes if one guest of the group is left out."""

from fewchairs.checks import check_group
from fewchairs.crowds import kinds_in, one_less


def look(custom, group):
    """The list of the pairs (kind left out, kind that goes)."""
    check_group(custom.house, group)
    return [(kind, custom.who_goes(one_less(group, kind))) for kind in kinds_in(group)]


def given_up(custom, group):
    """The tuple of the chairs of each kind that are given up in the group."""
    chairs = [0] * custom.house.kinds
    for left_out, goes in look(custom, group):
        if left_out == goes:
            chairs[goes] = 2
        else:
            chairs[goes] = max(chairs[goes], 1)
    return tuple(chairs)


def passes(custom, group):
    """Whether the custom passes the look at the group."""
    return sum(given_up(custom, group)) == 2


def first_fault(custom):
    """The first group at which the custom does not pass the look, or None."""
    for group in custom.house.groups():
        if not passes(custom, group):
            return group
    return None


def is_free(custom):
    """Whether the custom is order-free."""
    return first_fault(custom) is None
