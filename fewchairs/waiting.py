"""Waiting rooms: guests come and leave, chairs are added and removed."""

from fewchairs.checks import check_chairs, check_kind
from fewchairs.crowds import minus, one_less, one_more
from fewchairs.errors import NobodyThere
from fewchairs.runs import check_guest


class WaitingRoom:
    """A waiting room with a chain and so many chairs, at first without guests."""

    def __init__(self, chain, *, seats=1):
        check_chairs(chain.most_chairs, seats)
        self.chain = chain
        self._seats = seats
        self._there = (0,) * chain.rules[0].house.kinds
        self._sitting = self._there

    @property
    def there(self):
        """The crowd that is there."""
        return self._there

    @property
    def sitting(self):
        """The crowd that sits."""
        return self._sitting

    @property
    def waiting(self):
        """The crowd that waits."""
        return minus(self._there, self._sitting)

    @property
    def seats(self):
        """The number of chairs."""
        return self._seats

    @seats.setter
    def seats(self, number):
        """Adds or removes chairs one by one."""
        self.set_seats(number)

    def come(self, kind):
        """A guest comes; the pair of the kinds of who sits down and of who rises."""
        check_guest(self.chain.rules[0].house, self._there, kind)
        return self._settle(one_more(self._there, kind), self._seats)

    def leave(self, kind):
        """A guest leaves; the pair of the kind of who sits down and None."""
        check_kind(self.chain.rules[0].house, kind)
        if self._there[kind] == 0:
            raise NobodyThere(kind)
        sits, _ = self._settle(one_less(self._there, kind), self._seats)
        return sits, None

    def add_chair(self):
        """Adds a chair; the pair of the kind of who sits down and None."""
        return self._settle(self._there, self._seats + 1)

    def remove_chair(self):
        """Removes a chair; the pair of None and the kind of who rises."""
        return self._settle(self._there, self._seats - 1)

    def set_seats(self, number):
        """Adds or removes chairs one by one; the list of the pairs of the single steps."""
        check_chairs(self.chain.most_chairs, number)
        moves = []
        while self._seats < number:
            moves.append(self.add_chair())
        while self._seats > number:
            moves.append(self.remove_chair())
        return moves

    def _settle(self, there, seats):
        """Lets this crowd be there with so many chairs; the pair of the kinds of who sits down and who rises."""
        before = self._sitting
        # Whatever happened before, the end of who is there sits. The chain raises NoChair if it has no such rule.
        self._sitting = self.chain[seats].end(there)
        self._there = there
        self._seats = seats
        return _more_in(self._sitting, before), _more_in(before, self._sitting)


def _more_in(crowd, other):
    """The kind of which the crowd has more guests than the other one, or None."""
    for kind, count in enumerate(crowd):
        if count > other[kind]:
            return kind
    return None
