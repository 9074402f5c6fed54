"""Chains: nested rules with 1, 2, .. chairs, and the lines in which they put crowds."""

from fewchairs.checks import check_chairs, check_guests
from fewchairs.crowds import minus, within
from fewchairs.errors import NotNested, WrongHouse
from fewchairs.houses import House


def chain_fault(rules):
    """None if the rules are nested, otherwise the first pair (chairs, crowd) that tells that they are not."""
    for rule, wider in zip(rules, rules[1:]):
        for group in rule.house.groups():
            if not within(rule.end(group), wider.end(group)):
                return (rule.house.chairs, group)
    return None


class Chain:
    """A chain of nested rules; the rule at index i has i + 1 chairs."""

    def __init__(self, rules):
        if not 1 <= len(rules) <= House.CHAIRS:
            raise WrongHouse("halls")
        check_guests(rules)
        for at, rule in enumerate(rules):
            if rule.house.chairs != at + 1:
                raise WrongHouse("chairs")
        fault = chain_fault(rules)
        if fault is not None:
            raise NotNested(fault[0], fault[1])
        self.rules = tuple(rules)
        self.most_chairs = len(rules)

    def __getitem__(self, at):
        check_chairs(self.most_chairs, at)
        return self.rules[at - 1]

    def __iter__(self):
        return iter(self.rules)

    def line(self, crowd):
        """The list of the kinds of the guests in the line of the crowd."""
        places = []
        seated = (0,) * len(crowd)
        for rule in self.rules:
            end = rule.end(crowd)
            # A crowd with fewer guests than chairs has no further place.
            places = places + [kind for kind, count in enumerate(minus(end, seated)) if count > 0]
            seated = end
        return places
