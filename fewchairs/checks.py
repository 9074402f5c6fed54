"""What several files check of their arguments."""

from fewchairs.crowds import size, within
from fewchairs.errors import BadCrowd, BadCustom, BadKind, BadOrder, NoChair, WrongHouse


def check_kind(house, kind):
    """Raises BadKind if the house does not have the kind."""
    check_kind_of(house.kinds, kind)


def check_kind_of(kinds, kind):
    """Raises BadKind if the kind is not one of so many kinds."""
    if not 0 <= kind < kinds:
        raise BadKind(kind)


def check_counts(kinds, crowd):
    """Raises BadCrowd if the tuple does not have so many counts, none below 0."""
    if len(crowd) != kinds or not all([count >= 0 for count in crowd]):
        raise BadCrowd(crowd)


def check_wide(kinds, house):
    """Raises WrongHouse if the house does not have so many kinds or is not wide."""
    if house.kinds != kinds:
        raise WrongHouse("kinds")
    if not all([bound > house.chairs for bound in house.most]):
        raise WrongHouse("most")


def check_unlike(house):
    """Raises WrongHouse if the guests of the house are not unlike."""
    if house.most != (1,) * house.kinds:
        raise WrongHouse("most")


def check_guests(rules):
    """Raises WrongHouse if the houses of the rules do not all have the same guests."""
    for rule in rules:
        if not rule.house.same_guests(rules[0].house):
            raise WrongHouse("guests")


def check_order(kinds, order):
    """Raises BadOrder if the list does not contain each of the kinds exactly once."""
    for at, kind in enumerate(order):
        if not 0 <= kind < kinds or kind in order[:at]:
            raise BadOrder(at)
    if len(order) < kinds:
        raise BadOrder(len(order))


def check_answers(choices, answers):
    """Raises BadCustom if there is not one answer for each list of choices, and one of these."""
    for at, (allowed, kind) in enumerate(zip(choices, answers)):
        if kind not in allowed:
            raise BadCustom(at)
    if len(answers) != len(choices):
        raise BadCustom(min(len(answers), len(choices)))


def check_chairs(most, chairs):
    """Raises NoChair if the number of chairs is not from 1 to the most."""
    if not 1 <= chairs <= most:
        raise NoChair(chairs)


def check_meeting(house, crowd):
    """Raises BadCrowd if the crowd is not a meeting of the house."""
    if not house.has(crowd) or size(crowd) != house.chairs + 1:
        raise BadCrowd(crowd)


def check_group(house, crowd):
    """Raises BadCrowd if the crowd is not a group of the house."""
    if not house.has(crowd) or size(crowd) != house.chairs + 2:
        raise BadCrowd(crowd)


def is_seated(chairs, crowd, end):
    """Whether the end is a crowd within the crowd that leaves no chair free without need."""
    return (len(end) == len(crowd) and all([count >= 0 for count in end]) and within(end, crowd)
            and size(end) == min(chairs, size(crowd)))
