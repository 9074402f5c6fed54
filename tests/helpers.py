"""What several tests need: plain ways to go through all rows, crowds and customs of small houses."""

import itertools
import unittest

from fewchairs.cardnumbers import cards_at, count_cards
from fewchairs.customs import Custom
from fewchairs.folks import Folk
from fewchairs.houses import House
from fewchairs.look import is_free
from fewchairs.makers import order_custom
from fewchairs.nets import Net
from fewchairs.rules import Rule
from fewchairs.shares import Shares

MANY = 10 ** 18


class Case(unittest.TestCase):
    """A test case that can check an error together with its fields."""

    def fails(self, error, fields, call, *args, **named):
        with self.assertRaises(error) as caught:
            call(*args, **named)
        self.assertIs(type(caught.exception), error)
        self.assertEqual(vars(caught.exception), fields)


def all_crowds(bound):
    """All crowds within the bound, ascending."""
    return list(itertools.product(*[range(count + 1) for count in bound]))


def all_rows(crowd):
    """All different rows of the crowd, in the order of lists."""
    if sum(crowd) == 0:
        return [[]]
    rows = []
    for kind, count in enumerate(crowd):
        if count:
            fewer = list(crowd)
            fewer[kind] -= 1
            rows += [[kind] + row for row in all_rows(tuple(fewer))]
    return rows


def all_customs(house):
    """All customs of the house, in ascending order of their answers."""
    choices = [[kind for kind in range(house.kinds) if meeting[kind]]
               for meeting in crowds_of_size(house, house.chairs + 1)]
    return [Custom(house, list(answers)) for answers in itertools.product(*choices)]


def crowds_of_size(house, number):
    """All crowds of the house of this size, found by going through all small ones."""
    bound = [min(most, number) for most in house.most]
    return [crowd for crowd in all_crowds(bound) if sum(crowd) == number]


def counted(guests, kinds):
    """The crowd of the guests."""
    return tuple(guests.count(kind) for kind in range(kinds))


def plain_run(custom, row):
    """The pairs of who goes and who sits, by the words of [13]."""
    kinds = custom.house.kinds
    answers = dict(zip(crowds_of_size(custom.house, custom.house.chairs + 1), custom.answers))
    sitting, pairs = [], []
    for kind in row:
        goes = None
        sitting.append(kind)
        if len(sitting) > custom.house.chairs:
            goes = answers[counted(sitting, kinds)]
            sitting.remove(goes)
        pairs.append((goes, counted(sitting, kinds)))
    return pairs


def plain_left(custom, row):
    """The crowd that the row leaves."""
    pairs = plain_run(custom, row)
    return pairs[-1][1] if pairs else (0,) * custom.house.kinds


def plain_ends(custom, crowd):
    """A dict from each end of the crowd to the number of its rows."""
    ends = {}
    for row in all_rows(crowd):
        end = plain_left(custom, row)
        ends[end] = ends.get(end, 0) + 1
    return ends


def plainly_free(custom):
    """Whether all rows of each crowd of the (small) house leave the same crowd."""
    return all(len(plain_ends(custom, crowd)) == 1 for crowd in all_crowds(custom.house.most))


SMALL_HOUSES = [
    House(1, 1, most=(1,)),
    House(1, 2, most=(5,)),
    House(2, 1, most=(1, 1)),
    House(2, 1, most=(2, 3)),
    House(2, 2, most=(3, 3)),
    House(2, 3, most=(4, 2)),
    House(3, 1, most=(2, 1, 1)),
    House(3, 1, most=(1, 1, 1)),
    House(3, 2, most=(2, 2, 1)),
    House(3, 2, most=(1, 1, 1)),
    House(4, 2, most=(1, 1, 1, 1)),
    House(4, 3, most=(1, 1, 1, 2)),
]

RULES = [Rule(custom) for house in SMALL_HOUSES for custom in all_customs(house) if is_free(custom)]


def order_rule(house, order):
    """The rule of the custom by the order."""
    return Rule(order_custom(house, order))


def crowds_between(low, high):
    """All crowds between the two, ascending."""
    return [crowd for crowd in all_crowds(high) if all(count >= least for count, least in zip(crowd, low))]


# The greatest house with some order-free custom that is not by an order.
GREATEST = order_rule(House(6, 2), [2, 4, 0, 1, 3, 5]) >> order_rule(House(6, 3), [5, 0, 2, 4, 1, 3])


def all_shares(chairs):
    """All shares with so many chairs: keep ascending, then all letters ascending."""
    found = []
    for keep in itertools.product(range(chairs + 1), repeat=3):
        if sum(keep) == chairs:
            letters = [[1, 2]] * keep[0] + [[0, 2]] * keep[1] + [[0, 1]] * keep[2]
            for word in itertools.product(*letters):
                first, second = keep[0], keep[0] + keep[1]
                found.append(Shares.spelled(list(word[:first]), list(word[first:second]), list(word[second:])))
    return found


def all_cards(people):
    """All cards of so many people, in the order of their numbers."""
    return [cards_at(people, number) for number in range(count_cards(people))]


def small_nets():
    """Nets of one, two and three halls with few guests, of all kinds of routes."""
    nets = []
    unlike = [order_rule(House.unlike(3, 1), order) for order in ([0, 1, 2], [2, 1, 0], [1, 2, 0])]
    two = [Rule(custom) for custom in all_customs(House.unlike(3, 2)) if is_free(custom)]
    routes = [[[0, 1], [1, 0], [1]], [[0, 1], [0, 1], [1, 0]], [[1], [], [0]], [[1, 0], [0, 1], [0]]]
    for first in unlike + two:
        for second in unlike:
            nets += [Net([first, second], route) for route in routes]
    turning = [[0, 1, 2], [1, 2, 0], [2, 0, 1]]
    nets += [Net([first, second, unlike[0]], turning) for first in unlike for second in unlike + two[:1]]
    nets += [Net([rule], [[0], [], [0]]) for rule in unlike + two]
    kinds = [order_rule(House(2, chairs, most=(2, 2)), order) for chairs in (1, 2) for order in ([0, 1], [1, 0])]
    middle = Rule(Custom(House(2, 2, most=(2, 2)), [1, 0]))
    for first in kinds + [middle]:
        for second in kinds + [middle]:
            nets += [Net([first, second], route) for route in ([[0, 1], [1, 0]], [[0, 1], [0]])]
    return nets


def free_rules(house):
    """The rules of all order-free customs of the house."""
    return [Rule(custom) for custom in all_customs(house) if is_free(custom)]


def plainly_nested(rules):
    """Whether each end with fewer chairs is within the end with more, for all crowds of the (small) house."""
    return all(all(a <= b for a, b in zip(rule.end(crowd), wider.end(crowd)))
               for rule, wider in zip(rules, rules[1:]) for crowd in all_crowds(rule.house.most))


def rule_rows(most, chairs, step=1):
    """All lists of rules with 1, 2, .. chairs, nested or not."""
    choices = [free_rules(House(len(most), number, most=most)) for number in range(1, chairs + 1)]
    return [list(rules) for rules in itertools.product(*choices)][::step]


def row_chain(kinds, chairs, most=(), first=0):
    """Nested rules: halls in a row with one chair each, by orders that begin with different kinds."""
    rules = []
    for at in range(first, first + chairs):
        order = [(at + kind) % kinds for kind in range(kinds)]
        rule = order_rule(House(kinds, 1, most=most), order[::-1] if at % 2 else order)
        rules.append(rules[-1] >> rule if rules else rule)
    return rules


def all_folk(people, chairs):
    """All folk of so many unlike people: all customs, and all joins."""
    found = []
    for custom in all_customs(House.unlike(people, chairs)):
        choices = [[person for person in range(people) if meeting[person] and person != goes]
                   for meeting, goes in custom.table().items()]
        found += [Folk(custom, list(joins)) for joins in itertools.product(*choices)]
    return found


def plain_parting(folk, row):
    """The parting of the row by the words of [60] and [61]."""
    house = folk.custom.house
    joins = dict(zip(crowds_of_size(house, house.chairs + 1), folk.joins))
    groups = []
    for person in row:
        groups.append([person, {person}])
        if len(groups) > house.chairs:
            meeting = counted([head for head, _ in groups], house.kinds)
            goer = [group for group in groups if group[0] == folk.custom(meeting)][0]
            groups.remove(goer)
            host = [group for group in groups if group[0] == joins[meeting]][0]
            host[1] |= goer[1]
    return [(head, tuple(sorted(members))) for head, members in sorted(groups)]
