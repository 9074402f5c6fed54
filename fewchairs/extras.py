"""Rules with 1, 2, .. chairs put into one custom with one kind more, and back."""

from fewchairs.chains import Chain
from fewchairs.customs import Custom
from fewchairs.errors import BadKind, WrongHouse
from fewchairs.houses import House
from fewchairs.rules import Rule


def joined(rules):
    """The custom with one kind more, whose guests keep their chairs from the others."""
    house = rules[-1].house
    if house.chairs == 1:
        raise WrongHouse("chairs")
    if house.kinds == House.KINDS:
        raise WrongHouse("kinds")
    wider = House(house.kinds + 1, house.chairs, most=house.most + (house.chairs - 1,))
    return Custom(wider, [rules[-1 - meeting[-1]].custom.who_goes(meeting[:-1]) for meeting in wider.meetings()])


def chain_of(rule):
    """The chain whose rules are put into the custom of the rule."""
    house = rule.house
    if house.chairs == 1:
        raise WrongHouse("chairs")
    if house.kinds == 1:
        raise WrongHouse("kinds")
    if house.most[-1] != house.chairs - 1:
        raise WrongHouse("most")
    if house.kinds - 1 in rule.custom.answers:
        raise BadKind(house.kinds - 1)
    return Chain([Rule(_with_chairs(rule.custom, chairs)) for chairs in range(1, house.chairs + 1)])


def _with_chairs(custom, chairs):
    """The custom of the other kinds if guests of the last kind have left so many chairs."""
    kept = custom.house.chairs - chairs
    house = House(custom.house.kinds - 1, chairs, most=custom.house.most[:-1])
    return Custom(house, [custom.who_goes(meeting + (kept,)) for meeting in house.meetings()])
