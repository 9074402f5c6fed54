"""Rows of leaders of cards, and the cards with respect to such a row."""

from fewchairs.errors import BadOrder, TooLarge

MOST_PEOPLE = 8


def leader_rows(cards):
    """Yields the rows of leaders, in ascending order."""
    if cards.people > MOST_PEOPLE:
        raise TooLarge(cards.people)
    rows = [()]
    for _ in range(cards.people):
        rows = [row + (person,) for row in rows for person in cards.stay(_further(cards, row))]
    for row in rows:
        yield row


def leader_cards(cards, row):
    """The tuple of the cards of the people in the row of leaders, in its order."""
    for at, person in enumerate(row):
        if person not in cards.stay(_further(cards, row[:at])):
            raise BadOrder(at)
    if len(row) < cards.people:
        raise BadOrder(len(row))
    return tuple([_card(cards, person, row[at + 1:]) for at, person in enumerate(row)])


def _further(cards, row):
    """The list of all people who are not in the row."""
    return [person for person in range(cards.people) if person not in row]


def _card(cards, head, people):
    """The order of the people in which the one ahead is left beside the head."""
    order = []
    waiting = list(people)
    while waiting:
        order.append([person for person in cards.stay([head, *waiting]) if person != head][0])
        waiting.remove(order[-1])
    return tuple(order)
