"""The cards of a custom of unlike people with two chairs, and the custom of cards."""

from fewchairs.cards import Cards
from fewchairs.checks import check_unlike
from fewchairs.crowds import crowd_of, kinds_in
from fewchairs.customs import Custom
from fewchairs.errors import TooLarge, WrongHouse
from fewchairs.houses import House
from fewchairs.rules import Rule


def cards_of(custom):
    """The cards that send away the same people as the custom."""
    house = custom.house
    if house.kinds == 1:
        raise WrongHouse("kinds")
    check_unlike(house)
    if house.chairs != 2:
        raise WrongHouse("chairs")
    rule = Rule(custom)
    host = kinds_in(rule.sure)[0]
    row = _order_beside(rule, host, [person for person in range(house.kinds) if person != host])
    return Cards(host, row, [_order_beside(rule, person, row[at + 1:]) for at, person in enumerate(row)])


def custom_of_cards(cards):
    """The custom that sends away the same people as the cards."""
    if cards.people > House.KINDS:
        raise TooLarge(cards.people)
    house = House.unlike(cards.people, 2)
    return Custom(house, [cards.goes(kinds_in(meeting)) for meeting in house.meetings()])


def _order_beside(rule, head, people):
    """The people in the order in which they are left beside the head, who is left of all crowds of them."""
    order = []
    waiting = list(people)
    while waiting:
        end = rule.end(crowd_of(rule.house.kinds, head, *waiting))
        order.append([person for person in waiting if end[person] == 1][0])
        waiting.remove(order[-1])
    return order
