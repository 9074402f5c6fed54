"""Askers: they learn an order-free custom of unlike people with two chairs by asking who goes.

What is known is the list of the pairs of each leader and the leader's card, in the order of a row of leaders.
It grows from its end: the last leader is the first one who is known.
"""

from fewchairs.cards import Cards
from fewchairs.errors import BadKind, BadNumber, Unfinished

MOST_PEOPLE = 12


class Asker:
    """An asker for so many people, who has asked nothing at first."""

    def __init__(self, people):
        if not 2 <= people <= MOST_PEOPLE:
            raise BadNumber(people)
        self.people = people
        self._goes = {}

    @property
    def asked(self):
        """The list of the pairs of three people and the one who goes, as they were told."""
        return [(three, self._goes[three]) for three in self._goes]

    def next_three(self):
        """The ascending list of the three people who are asked for, or None if the custom is known."""
        # What is asked for is always what is missing for the cards.
        try:
            self.learned()
        except Unfinished as missing:
            return list(missing.meeting)
        return None

    def tell(self, person):
        """Tells who goes from the three people who are asked for."""
        three = self.next_three()
        if three is None or person not in three:
            raise BadKind(person)
        self._goes[tuple(three)] = person

    def learned(self):
        """The cards of the custom; Unfinished is raised with the next three people if it is not yet known."""
        known = _leaders(self._goes, list(range(self.people)))
        # The first leader, the lesser one of the two who are left of all, is the host, and its card is the row.
        host, row = known[0]
        return Cards(host, row, [_order_beside(known, person, row[at + 1:]) for at, person in enumerate(row)])


def _leaders(goes, people):
    """What is known if the answers are enough; otherwise Unfinished is raised."""
    heads = []
    rest = people
    while len(rest) > 1:
        head, second = _left_of(goes, rest)
        heads.append((head, second))
        rest = [person for person in rest if person != head]
    known = [(rest[0], [])]
    for head, second in heads[::-1]:
        known = [(head, _card(goes, known, head, second))] + known
    return known


def _who_goes(goes, people):
    """The one of three people who goes; raises Unfinished if the answer is missing."""
    three = tuple(sorted(people))
    if three not in goes:
        raise Unfinished(three)
    return goes[three]


def _left_of(goes, people):
    """The list of the two who are left if the people come in turn, in their order."""
    sitting = []
    for person in people:
        sitting.append(person)
        if len(sitting) == 3:
            sitting.remove(_who_goes(goes, sitting))
    return sitting


def _card(goes, known, head, second):
    """The card of a further leader beside those who are known; the second is the first one on it."""
    card = [second]
    waiting = [person for person, _ in known if person != second]
    while len(waiting) > 1:
        two = _stay(known, waiting)
        gone = _who_goes(goes, [head] + two)
        card.append([person for person in two if person != gone][0])
        waiting.remove(card[-1])
    return card + waiting


def _stay(known, people):
    """The list of those who are left of the people: the first leader of them, and the first on that card."""
    head, card = [pair for pair in known if pair[0] in people][0]
    return [head] + [person for person in card if person in people][:1]


def _order_beside(known, head, people):
    """The people in the order in which they are left beside the head."""
    order = []
    waiting = list(people)
    while waiting:
        order.append([person for person in _stay(known, [head] + waiting) if person != head][0])
        waiting.remove(order[-1])
    return order
