"""Rules of order-free customs: the end of each crowd, however great."""

from fewchairs.checks import check_kind
from fewchairs.crowds import lesser, minus, row_of, with_count
from fewchairs.customs import Custom
from fewchairs.errors import NotFree, WrongHouse
from fewchairs.houses import House
from fewchairs.look import first_fault
from fewchairs.runs import left


class Rule:
    """The rule of an order-free custom."""

    def __init__(self, custom):
        fault = first_fault(custom)
        if fault is not None:
            raise NotFree(fault)
        self.custom = custom
        self.house = custom.house

    def __eq__(self, other):
        return isinstance(other, Rule) and self.custom == other.custom

    def __rshift__(self, other):
        if not self.house.same_guests(other.house):
            raise WrongHouse("guests")
        chairs = self.house.chairs + other.house.chairs
        if chairs > House.CHAIRS:
            raise WrongHouse("chairs")
        house = House(self.house.kinds, chairs, most=self.house.most)
        return Rule(Custom(house, [_goes_home(self, other, meeting) for meeting in house.meetings()]))

    @property
    def sure(self):
        """The sure chairs: what is left of the most of each kind."""
        return self.end(self.house.most)

    def end(self, crowd):
        """The crowd that each row of the crowd leaves."""
        self.house.check(crowd)
        # More guests of a kind than there are chairs change nothing.
        small = lesser(crowd, (self.house.chairs,) * self.house.kinds)
        return left(self.custom, row_of(small))

    def cap(self, kind, crowd):
        """How many guests of the kind are left beside the others in the crowd, if many come."""
        check_kind(self.house, kind)
        self.house.check(crowd)
        return self.end(with_count(crowd, kind, self.house.most[kind]))[kind]


def _goes_home(first, second, meeting):
    """The kind that two halls in a row, full together, send home from a meeting."""
    passed_on = minus(meeting, first.end(meeting))
    return second.custom.who_goes(passed_on)
