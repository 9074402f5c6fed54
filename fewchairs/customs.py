"""Customs: who goes from each meeting of a house."""

from fewchairs.checks import check_answers, check_order
from fewchairs.crowds import kinds_in
from fewchairs.errors import BadCrowd, BadCustom
from fewchairs.houses import House


class Custom:
    """A custom: a house, and one answer for each of its meetings in their order."""

    def __init__(self, house, answers):
        meetings = house.meetings()
        check_answers([kinds_in(meeting) for meeting in meetings], answers)
        self.house = house
        self.answers = tuple(answers)
        self._goes = {meeting: kind for meeting, kind in zip(meetings, answers)}

    @staticmethod
    def of(house, table):
        """The custom with the answers of a dict from meetings to kinds."""
        # -1 is a kind in no meeting, so that a missing entry is found as a wrong answer.
        custom = Custom(house, [table.get(meeting, -1) for meeting in house.meetings()])
        if len(table) > len(custom.answers):
            raise BadCustom(len(custom.answers))
        return custom

    def __eq__(self, other):
        return isinstance(other, Custom) and self.house == other.house and self.answers == other.answers

    def __call__(self, meeting):
        """The kind that goes from the meeting."""
        return self.who_goes(meeting)

    def who_goes(self, meeting):
        """The kind that goes from the meeting."""
        kind = self._goes.get(meeting)
        if kind is None:
            raise BadCrowd(meeting)
        return kind

    def table(self):
        """A dict from each meeting, in ascending order, to the kind that goes."""
        return {meeting: self._goes[meeting] for meeting in self._goes}

    def renamed(self, names):
        """The custom in which kind x has become kind names[x]."""
        check_order(self.house.kinds, names)
        house = House(self.house.kinds, self.house.chairs, most=_renamed_crowd(self.house.most, names))
        goes = {_renamed_crowd(meeting, names): names[self._goes[meeting]] for meeting in self._goes}
        return Custom.of(house, goes)


def _renamed_crowd(crowd, names):
    """The crowd that has at names[x] the count that the crowd has at x."""
    return tuple([crowd[names.index(kind)] for kind in range(len(crowd))])
