"""Nets of halls: each kind of guests has a route through some of them."""

from fewchairs.checks import check_guests
from fewchairs.crowds import minus
from fewchairs.errors import BadRoute, WrongHouse

MOST_HALLS = 4


class Net:
    """A net of halls: one rule for each hall, and one route for each kind."""

    def __init__(self, rules, routes):
        if not 1 <= len(rules) <= MOST_HALLS:
            raise WrongHouse("halls")
        check_guests(rules)
        kinds = rules[0].house.kinds
        _check_routes(kinds, len(rules), routes)
        self.rules = tuple(rules)
        self.routes = tuple([tuple(route) for route in routes])
        self.kinds = kinds

    def visits(self, crowd):
        """The list of the crowds that come to each hall until the net is at rest."""
        self.rules[0].house.check(crowd)
        return self._in_the_end(crowd, [(0,) * self.kinds] * len(self.rules))

    def settle(self, crowd):
        """The settled seating: the tuple of the crowds held, and the crowd at home."""
        return self._seating(crowd, self.visits(crowd))

    def settle_late(self, crowd):
        """The late seating: the tuple of the crowds held, and the crowd at home."""
        self.rules[0].house.check(crowd)
        everybody = [tuple([count if hall in route else 0 for count, route in zip(crowd, self.routes)])
                     for hall in range(len(self.rules))]
        return self._seating(crowd, self._in_the_end(crowd, everybody))

    def _in_the_end(self, crowd, coming):
        """The list of the crowds that come to each hall when nothing changes any more, from such a list on."""
        # Counts change one way only, and once the first turns are over by no more guests than there are chairs.
        while True:
            further = self._one_turn(crowd, coming)
            if further == coming:
                return coming
            coming = further

    def _one_turn(self, crowd, coming):
        """The list of the crowds that come to each hall if those of the list came before."""
        sent_on = [minus(guests, rule.end(guests)) for guests, rule in zip(coming, self.rules)]
        further = [[0] * self.kinds for _ in self.rules]
        for kind, route in enumerate(self.routes):
            count = crowd[kind]
            for hall in route:
                further[hall][kind] = count
                count = sent_on[hall][kind]
        return [tuple(counts) for counts in further]

    def _seating(self, crowd, coming):
        """The pair of the crowds held and the crowd at home if these crowds come to the halls."""
        sitting = tuple([rule.end(guests) for guests, rule in zip(coming, self.rules)])
        home = crowd
        for guests in sitting:
            home = minus(home, guests)
        return sitting, home


def _check_routes(kinds, halls, routes):
    """Raises BadRoute unless there is one route of different halls for each kind."""
    for kind in range(kinds):
        if kind >= len(routes) or not _is_route(halls, routes[kind]):
            raise BadRoute(kind)
    if len(routes) > kinds:
        raise BadRoute(kinds)


def _is_route(halls, route):
    """Whether the route has different halls and nothing else."""
    return len(set(route)) == len(route) and all([0 <= hall < halls for hall in route])
