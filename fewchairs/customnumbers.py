"""The numbers of the customs of a house, in ascending order of their answers."""

from fewchairs.crowds import kinds_in
from fewchairs.customs import Custom
from fewchairs.errors import BadNumber


def count_customs(house):
    """How many customs the house has."""
    number = 1
    for meeting in house.meetings():
        number = number * len(kinds_in(meeting))
    return number


def custom_at(house, number):
    """The custom with this number."""
    if not 0 <= number < count_customs(house):
        raise BadNumber(number)
    answers = []
    rest = number
    # The last meeting is the least significant one.
    for meeting in house.meetings()[::-1]:
        kinds = kinds_in(meeting)
        rest, digit = divmod(rest, len(kinds))
        answers.append(kinds[digit])
    return Custom(house, answers[::-1])


def number_of(custom):
    """The number of the custom."""
    number = 0
    for meeting, kind in custom.table().items():
        kinds = kinds_in(meeting)
        number = number * len(kinds) + kinds.index(kind)
    return number
