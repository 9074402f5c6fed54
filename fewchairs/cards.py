"""Cards: order-free customs of unlike people with two chairs, for up to 30 people."""

from fewchairs.errors import BadCards, BadCrowd

MOST_PEOPLE = 30


class Cards:
    """A host, a row of the other people, and for each of them a card: an order of those later in the row."""

    def __init__(self, host, row, cards):
        if not _is_row(host, row):
            raise BadCards(-1)
        _check_orders(row, cards)
        for at in range(len(row)):
            if not _fits(row, cards, at):
                raise BadCards(at)
        self.host = host
        self.row = tuple(row)
        self.cards = tuple([tuple(card) for card in cards])
        self.people = len(row) + 1

    def __eq__(self, other):
        return (isinstance(other, Cards) and self.host == other.host and self.row == other.row
                and self.cards == other.cards)

    def goes(self, three):
        """The one of three different people who goes."""
        if len(three) != 3 or not self._are_people(three):
            raise BadCrowd(three)
        in_row = [person for person in self.row if person in three]
        if self.host in three:
            return in_row[-1]
        return [person for person in self._card(in_row[0]) if person in three][-1]

    def stay(self, people):
        """The ascending list of those who are left of different people."""
        if not self._are_people(people):
            raise BadCrowd(people)
        if len(people) < 2:
            return list(people)
        in_row = [person for person in self.row if person in people]
        if self.host in people:
            return sorted([self.host, in_row[0]])
        return sorted([in_row[0], [person for person in self._card(in_row[0]) if person in people][0]])

    def _are_people(self, people):
        """Whether these are different people."""
        return len(set(people)) == len(people) and all([0 <= person < self.people for person in people])

    def _card(self, person):
        """The card of somebody in the row."""
        return self.cards[self.row.index(person)]


def _is_row(host, row):
    """Whether the host and the row are all people, each once, and the host is less than the first in the row."""
    return (1 <= len(row) < MOST_PEOPLE and sorted([host, *row]) == list(range(len(row) + 1))
            and host < row[0])


def _check_orders(row, cards):
    """Raises BadCards unless there is one card for each in the row, an order of those later in the row."""
    for at in range(len(row)):
        if at >= len(cards) or sorted(cards[at]) != sorted(row[at + 1:]):
            raise BadCards(at)
    if len(cards) > len(row):
        raise BadCards(len(row))


def _fits(row, cards, at):
    """Whether those ahead of a later person on the card at the index are the first ones on that person's card."""
    places = {person: place for place, person in enumerate(row)}
    ahead = []
    for person in cards[at]:
        place = places[person]
        later = [found for found in ahead if places[found] > place]
        if later != list(cards[place][:len(later)]):
            return False
        ahead.append(person)
    return True
