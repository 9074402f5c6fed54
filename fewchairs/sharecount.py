"""How many shares there are, and their numbers."""

from fewchairs.errors import BadNumber, TooLarge
from fewchairs.shares import Shares, others

MOST_COUNTED = 1000
MOST_NUMBERED = 200


def keeps_of(chairs):
    """The ascending list of all tuples `keep` with so many chairs."""
    return [(first, second, chairs - first - second)
            for first in range(chairs + 1) for second in range(chairs - first + 1)]


def count_shares(chairs):
    """How many shares have so many chairs."""
    if not 1 <= chairs <= MOST_COUNTED:
        raise BadNumber(chairs)
    return _count(chairs)


def shares_at(chairs, number):
    """The shares with this number."""
    if not 1 <= chairs <= MOST_NUMBERED:
        raise BadNumber(chairs)
    if not 0 <= number < _count(chairs):
        raise BadNumber(number)
    keep = keeps_of(chairs)[number >> chairs]
    owners = [kind for kind in range(3) for _ in range(keep[kind])]
    # Each letter is a binary digit, the first letter the most significant one.
    letters = [others(kind)[number >> (chairs - 1 - at) & 1] for at, kind in enumerate(owners)]
    second, third = keep[0], keep[0] + keep[1]
    return Shares.spelled(letters[:second], letters[second:third], letters[third:])


def number_of_shares(shares):
    """The number of the shares."""
    if shares.chairs > MOST_NUMBERED:
        raise TooLarge(shares.chairs)
    number = keeps_of(shares.chairs).index(shares.keep)
    for kind in range(3):
        for letter in shares.letters(kind):
            number = number * 2 + others(kind).index(letter)
    return number


def _count(chairs):
    """How many shares have so many chairs, which are not checked."""
    return (chairs + 1) * (chairs + 2) // 2 << chairs
