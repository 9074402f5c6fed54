"""How many cards there are, and their numbers.

A number is made of digits: one for the host and the first person in the row, one for each further person in
the row, and the binary digits of the cards, the card of the last person in the row first.
"""

from math import factorial

from fewchairs.cards import MOST_PEOPLE, Cards
from fewchairs.errors import BadNumber


def count_cards(people):
    """How many cards there are for so many people."""
    if not 2 <= people <= MOST_PEOPLE:
        raise BadNumber(people)
    return (factorial(people) // 2) << ((people - 2) * (people - 3) // 2)


def cards_at(people, number):
    """The cards with this number."""
    every = count_cards(people)
    if not 0 <= number < every:
        raise BadNumber(number)
    digits = _digits(_bases(people), number)
    host, first = _pairs(people)[digits[0]]
    waiting = [person for person in range(people) if person not in (host, first)]
    row = [first]
    for digit in digits[1:people - 1]:
        row.append(waiting.pop(digit))
    return Cards(host, row, _read_cards(row, digits[people - 1:]))


def number_of_cards(cards):
    """The number of the cards."""
    digits = [_pairs(cards.people).index((cards.host, cards.row[0]))]
    for at, person in enumerate(cards.row[1:]):
        # Neither the host nor earlier in the row.
        later = sorted(cards.row[at + 1:])
        digits.append(later.index(person))
    for at in reversed(range(len(cards.row))):
        digits = digits + _card_digits(cards.cards[at], cards.row[at + 1:])
    number = 0
    for digit, base in zip(digits, _bases(cards.people)):
        number = number * base + digit
    return number


def _pairs(people):
    """The ascending list of all pairs of different people, the lesser person first."""
    return [(first, second) for first in range(people) for second in range(first + 1, people)]


def _bases(people):
    """The bases of the digits, the most significant one first."""
    return ([people * (people - 1) // 2] + list(range(1, people - 1))[::-1]
            + [2] * ((people - 2) * (people - 3) // 2))


def _digits(bases, number):
    """The digits of the number, the most significant one first."""
    digits = []
    rest = number
    for base in bases[::-1]:
        rest, digit = divmod(rest, base)
        digits.append(digit)
    return digits[::-1]


def _read_cards(row, digits):
    """The list of the cards that the binary digits give."""
    known = {}
    rest = digits
    for at in reversed(range(len(row))):
        later = row[at + 1:]
        many = max(len(later) - 1, 0)
        known[row[at]] = _read_card(later, rest[:many], known)
        rest = rest[many:]
    return [known[person] for person in row]


def _read_card(later, digits, known):
    """The card of one whom the people later in the row follow; their cards are known."""
    card = []
    waiting = list(later)
    for digit in digits:
        # 0: the earliest in the row of those not yet read. 1: the one whom that one's card has first of them.
        order = waiting if digit == 0 else [person for person in known[waiting[0]] if person in waiting]
        card.append(order[0])
        waiting.remove(order[0])
    return card + waiting


def _card_digits(card, later):
    """The binary digits of a card; the people later in the row are in its order."""
    digits = []
    waiting = list(later)
    for person in card[:-1]:
        digits.append(0 if person == waiting[0] else 1)
        waiting.remove(person)
    return digits
