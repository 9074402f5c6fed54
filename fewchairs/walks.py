"""Walks: guests on their ways through a net, step by step."""

from fewchairs.crowds import one_less, one_more
from fewchairs.errors import NotUnderWay
from fewchairs.runs import arrive, check_guest


class Walk:
    """A walk through a net, at first without guests."""

    def __init__(self, net):
        nobody = (0,) * net.kinds
        self.net = net
        self._came = nobody
        self._home = nobody
        # One crowd for each hall: who sits in it, and who is under way to it.
        self._sitting_in = [nobody] * len(net.rules)
        self._going_to = [nobody] * len(net.rules)

    @property
    def held(self):
        """The tuple of the crowds that the halls hold."""
        return tuple(self._sitting_in)

    @property
    def home(self):
        """The crowd at home."""
        return self._home

    @property
    def came(self):
        """The crowd of all who came to the net."""
        return self._came

    @property
    def ways(self):
        """The ascending list of the pairs (kind, hall) such that a guest of the kind is under way to the hall."""
        return [(kind, hall) for kind in range(self.net.kinds)
                for hall, guests in enumerate(self._going_to) if guests[kind] > 0]

    def come(self, kind):
        """A guest comes to the net; the hall to which it is under way, or None."""
        check_guest(self.net.rules[0].house, self._came, kind)
        self._came = one_more(self._came, kind)
        return self._send(kind, 0)

    def step(self, kind, hall):
        """A guest of the kind arrives at the hall; the kind that goes from it, or None."""
        if (kind, hall) not in self.ways:
            raise NotUnderWay(kind, hall)
        goes, sitting = arrive(self.net.rules[hall].custom, self._sitting_in[hall], kind)
        self._sitting_in[hall] = sitting
        self._going_to[hall] = one_less(self._going_to[hall], kind)
        if goes is not None:
            self._send(goes, self.net.routes[goes].index(hall) + 1)
        return goes

    def finish(self):
        """Takes the step for the first pair of the ways until the walk is at rest; the number of steps."""
        number = 0
        while self.ways:
            kind, hall = self.ways[0]
            self.step(kind, hall)
            number += 1
        return number

    def _send(self, kind, place):
        """Sends a guest to the hall at the place of its route; the hall, or None for home."""
        route = self.net.routes[kind]
        if place == len(route):
            self._home = one_more(self._home, kind)
            return None
        hall = route[place]
        self._going_to[hall] = one_more(self._going_to[hall], kind)
        return hall
