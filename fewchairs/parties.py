"""Parties: crowds that have settled among themselves, and how they join."""

from fewchairs.checks import check_kind
from fewchairs.crowds import plus
from fewchairs.errors import TooManyOf, WrongHouse


class Party:
    """A crowd that has settled among itself by the rule."""

    def __init__(self, rule, crowd):
        self._sitting = rule.end(crowd)
        self.rule = rule
        self.crowd = crowd

    @property
    def sitting(self):
        """The crowd that is left."""
        return self._sitting

    def __add__(self, other):
        if not self.rule == other.rule:
            raise WrongHouse("custom")
        joined = plus(self.crowd, other.crowd)
        _check_most(self.rule.house, joined)
        return Party(self.rule, joined)

    def __getitem__(self, at):
        check_kind(self.rule.house, at)
        return self._sitting[at]

    def __contains__(self, x):
        return 0 <= x < len(self._sitting) and self._sitting[x] > 0

    def __iter__(self):
        return iter(self._sitting)


def together(rule, *crowds):
    """The end of the sum of the crowds."""
    joined = (0,) * rule.house.kinds
    for crowd in crowds:
        rule.house.check(crowd)
        joined = plus(joined, crowd)
    _check_most(rule.house, joined)
    return rule.end(joined)


def _check_most(house, joined):
    """Raises TooManyOf with the least kind of which the joined crowd has more than may come."""
    for kind, count in enumerate(joined):
        if count > house.most[kind]:
            raise TooManyOf(kind)
