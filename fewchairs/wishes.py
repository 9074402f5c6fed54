"""Wishes: seatings of a net in which somebody would sit elsewhere, and stable ones."""

from fewchairs.crowds import one_more, plus, size


def fits(net, crowd, held, home):
    """Whether the seating fits the crowd."""
    net.rules[0].house.check(crowd)
    if len(held) != len(net.rules):
        return False
    everybody = home
    for guests in held:
        everybody = plus(everybody, guests)
    return everybody == crowd and all([_may_hold(net, hall, guests) for hall, guests in enumerate(held)])


def first_wish(net, held, home):
    """The first pair (kind, hall) such that the kind wishes for the hall, or None."""
    for kind, route in enumerate(net.routes):
        for at, hall in enumerate(route):
            further = home[kind] + sum([held[later][kind] for later in route[at + 1:]])
            if further > 0 and _would_sit(net.rules[hall], held[hall], kind):
                return (kind, hall)
    return None


def is_stable(net, crowd, held, home):
    """Whether the seating fits the crowd and no kind wishes for a hall."""
    return fits(net, crowd, held, home) and first_wish(net, held, home) is None


def only_one(net, crowd):
    """Whether there is just one stable seating for the crowd."""
    return net.settle(crowd) == net.settle_late(crowd)


def _may_hold(net, hall, guests):
    """Whether the hall has chairs enough and is on the routes of the guests."""
    on_route = all([count == 0 or hall in route for count, route in zip(guests, net.routes)])
    return on_route and size(guests) <= net.rules[hall].house.chairs


def _would_sit(rule, guests, kind):
    """Whether a further guest of the kind would get a chair beside those whom the hall holds."""
    return size(guests) < rule.house.chairs or rule.custom.who_goes(one_more(guests, kind)) != kind
