"""Customs by an order, and customs of orders in turn."""

from fewchairs.checks import check_order
from fewchairs.crowds import kinds_in, one_less
from fewchairs.customs import Custom
from fewchairs.errors import WrongHouse


def order_of(rule):
    """("order", order) with an order that gives the custom, or ("crossed", first, second, x, y)."""
    sent = _sent_away(rule.custom)
    for kind, other in sent:
        if (other, kind) in sent:
            return ("crossed", sent[(kind, other)], sent[(other, kind)], kind, other)
    return ("order", _best_first(rule.house.kinds, sent))


def in_turn(house, orders):
    """The custom that gives each chair in turn by an order of its own."""
    if len(orders) != house.chairs:
        raise WrongHouse("chairs")
    for order in orders:
        check_order(house.kinds, order)
    return Custom(house, [_without_chair(orders, meeting) for meeting in house.meetings()])


def _sent_away(custom):
    """A dict from each pair (kind that goes, kind beside it in the meeting) to the first such meeting."""
    sent = {}
    for meeting, goes in custom.table().items():
        for kind in kinds_in(meeting):
            if kind != goes and (goes, kind) not in sent:
                sent[(goes, kind)] = meeting
    return sent


def _best_first(kinds, sent):
    """An order in which no kind goes from a meeting with a worse one; no two meetings are crossed."""
    order = []
    while len(order) < kinds:
        waiting = [kind for kind in range(kinds) if kind not in order]
        order.append([kind for kind in waiting if not any([(kind, other) in sent for other in waiting])][0])
    return order


def _without_chair(orders, meeting):
    """The kind of the guest of the meeting who gets no chair."""
    rest = meeting
    for order in orders:
        rest = one_less(rest, [kind for kind in order if rest[kind] > 0][0])
    return kinds_in(rest)[0]
