"""The leading chair of order-free customs of unlike people, and customs of orders in turn."""

from fewchairs.checks import check_unlike
from fewchairs.crowds import kinds_in, one_less, one_more
from fewchairs.customs import Custom
from fewchairs.errors import WrongHouse
from fewchairs.houses import House
from fewchairs.orders import order_of
from fewchairs.rules import Rule


def split_leader(rule):
    """("splits", order, rest) if the leading chair splits off, otherwise ("whole", stuck)."""
    check_unlike(rule.house)
    if rule.house.chairs == 1:
        raise WrongHouse("chairs")
    whole = []
    for head in _never_gone(rule.custom):
        order, stuck = _peeled(rule.custom, head)
        if not stuck:
            return ("splits", order, _rest(rule.custom, head))
        whole.append((head, stuck))
    return ("whole", whole)


def turns_of(rule):
    """("turns", orders) with the orders in turn that give the custom, or ("none", reasons)."""
    check_unlike(rule.house)
    if rule.house.chairs == 1:
        return ("turns", [order_of(rule)[1]])
    reasons = []
    for head in _never_gone(rule.custom):
        order, stuck = _peeled(rule.custom, head)
        if stuck:
            reasons.append((head, "stuck", stuck))
        else:
            word, found = turns_of(Rule(_rest(rule.custom, head)))
            if word == "turns":
                return ("turns", [order] + found)
            reasons.append((head, "rest", found))
    return ("none", reasons)


def _never_gone(custom):
    """The ascending list of the people who go from no meeting."""
    return [person for person in range(custom.house.kinds) if person not in custom.answers]


def _peeled(custom, head):
    """The pair of the order, the head and those who are taken away in turn, and the list that is stuck."""
    order = [head]
    waiting = [person for person in range(custom.house.kinds) if person != head]
    while True:
        leading = [person for person in waiting if _leads(custom, head, person, waiting)]
        if not leading:
            return order, waiting
        order.append(leading[0])
        waiting.remove(leading[0])


def _leads(custom, head, person, people):
    """Whether the person leads the people beside the head."""
    for meeting, goes in custom.table().items():
        if meeting[person] == 1 and all([found in people for found in kinds_in(meeting)]):
            if custom.who_goes(one_more(one_less(meeting, person), head)) != goes:
                return False
    return True


def _rest(custom, head):
    """The custom of the other chairs if the head has the leading one."""
    house = House.unlike(custom.house.kinds, custom.house.chairs - 1)
    return Custom(house, [head if meeting[head] == 1 else custom.who_goes(one_more(meeting, head))
                          for meeting in house.meetings()])
