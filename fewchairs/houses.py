"""Houses: so many kinds, so many chairs, and the most guests of each kind."""

from fewchairs.crowds import part_list
from fewchairs.errors import BadCrowd, BadHouse, TooLarge

MOST_SMALL_CROWDS = 1024


class House:
    """A house; the empty tuple for `most` stands for the greatest most of each kind."""

    KINDS = 6
    CHAIRS = 5
    MANY = 1000000000000000000

    def __init__(self, kinds, chairs, *, most=()):
        if not 1 <= kinds <= House.KINDS:
            raise BadHouse("kinds")
        if not 1 <= chairs <= House.CHAIRS:
            raise BadHouse("chairs")
        bounds = tuple(most) or (House.MANY,) * kinds
        if len(bounds) != kinds or not all([1 <= bound <= House.MANY for bound in bounds]):
            raise BadHouse("most")
        self.kinds = kinds
        self.chairs = chairs
        self.most = bounds

    @classmethod
    def unlike(cls, people, chairs):
        """The house with so many unlike guests."""
        # Made first without a most, so that no tuple is made for a wrong number of people.
        checked = cls(people, chairs)
        return cls(checked.kinds, checked.chairs, most=(1,) * checked.kinds)

    def __eq__(self, other):
        return (isinstance(other, House) and self.kinds == other.kinds
                and self.chairs == other.chairs and self.most == other.most)

    def same_guests(self, other):
        """Whether both houses have the same kinds with the same most."""
        return self.kinds == other.kinds and self.most == other.most

    def crowds(self, number):
        """The list of the crowds of this size."""
        return part_list(self.most, number)

    def meetings(self):
        """The list of the meetings."""
        return self.crowds(self.chairs + 1)

    def groups(self):
        """The list of the groups."""
        return self.crowds(self.chairs + 2)

    def small_crowds(self):
        """The list of the crowds with no more guests of a kind than there are chairs."""
        bounds = [min(bound, self.chairs) for bound in self.most]
        number = 1
        for bound in bounds:
            number = number * (bound + 1)
        if number > MOST_SMALL_CROWDS:
            raise TooLarge(number)
        small = [()]
        for bound in bounds:
            small = [crowd + (count,) for crowd in small for count in range(bound + 1)]
        return small

    def has(self, crowd):
        """Whether the tuple is a crowd of the house."""
        return (len(crowd) == self.kinds
                and all([0 <= count <= bound for count, bound in zip(crowd, self.most)]))

    def check(self, crowd):
        """Raises BadCrowd if the tuple is not a crowd of the house."""
        if not self.has(crowd):
            raise BadCrowd(crowd)
