"""What several files check of their arguments."""

from fewchairs.crowds import size
from fewchairs.errors import BadCrowd, BadKind, BadOrder


def check_kind(house, kind):
    """Raises BadKind if the house does not have the kind."""
    if not 0 <= kind < house.kinds:
        raise BadKind(kind)


def check_order(kinds, order):
    """Raises BadOrder if the list does not contain each of the kinds exactly once."""
    for at, kind in enumerate(order):
        if not 0 <= kind < kinds or kind in order[:at]:
            raise BadOrder(at)
    if len(order) < kinds:
        raise BadOrder(len(order))


def check_meeting(house, crowd):
    """Raises BadCrowd if the crowd is not a meeting of the house."""
    if not house.has(crowd) or size(crowd) != house.chairs + 1:
        raise BadCrowd(crowd)


def check_group(house, crowd):
    """Raises BadCrowd if the crowd is not a group of the house."""
    if not house.has(crowd) or size(crowd) != house.chairs + 2:
        raise BadCrowd(crowd)
