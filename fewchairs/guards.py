"""Guards: the meetings that keep guests of a kind from being left."""

from fewchairs.checks import check_kind
from fewchairs.crowds import one_more


def guard(rule, crowd, kind):
    """The meeting of the end and one more guest of the kind, or None if all guests of the kind are left."""
    end = rule.end(crowd)
    check_kind(rule.house, kind)
    if end[kind] == crowd[kind]:
        return None
    return one_more(end, kind)


def guards(rule, kind, number):
    """The list of the meetings with one guest of the kind more than the number that send the kind away."""
    check_kind(rule.house, kind)
    return [meeting for meeting, goes in rule.custom.table().items()
            if goes == kind and meeting[kind] == number + 1]
