"""Two kinds: order-free customs of wide houses with two kinds, and their thresholds."""

from fewchairs.checks import check_counts, check_wide
from fewchairs.crowds import size
from fewchairs.customs import Custom
from fewchairs.errors import BadNumber
from fewchairs.houses import House
from fewchairs.rules import Rule


def threshold_of(custom):
    """The threshold of an order-free custom."""
    check_wide(2, custom.house)
    rule = Rule(custom)
    return rule.custom.answers.count(1) - 1


def threshold_custom(chairs, keep):
    """The custom with the threshold `keep`."""
    if not 1 <= chairs <= House.CHAIRS:
        raise BadNumber(chairs)
    _check_threshold(chairs, keep)
    return Custom(House(2, chairs), [1] * (keep + 1) + [0] * (chairs - keep + 1))


def two_end(chairs, keep, crowd):
    """The end of the crowd by the custom with so many chairs and the threshold `keep`."""
    if chairs < 1:
        raise BadNumber(chairs)
    _check_threshold(chairs, keep)
    check_counts(2, crowd)
    if size(crowd) < chairs:
        return crowd
    if crowd[0] < keep:
        return (crowd[0], chairs - crowd[0])
    if crowd[1] < chairs - keep:
        return (chairs - crowd[1], crowd[1])
    return (keep, chairs - keep)


def _check_threshold(chairs, keep):
    """Raises BadNumber if no custom with so many chairs has the threshold."""
    if not 0 <= keep <= chairs:
        raise BadNumber(keep)
