"""Folk: whoever goes from a hall joins the group of one of those who stay."""

from fewchairs.checks import check_answers, check_unlike
from fewchairs.crowds import kinds_in, one_more
from fewchairs.errors import BadCrowd
from fewchairs.runs import steps


class Folk:
    """A custom of unlike people, and for each of its meetings the person whom the one who goes joins."""

    def __init__(self, custom, joins):
        check_unlike(custom.house)
        meetings = custom.house.meetings()
        check_answers([_who_stays(custom, meeting) for meeting in meetings], joins)
        self.custom = custom
        self.joins = tuple(joins)
        self._heads = {meeting: person for meeting, person in zip(meetings, joins)}

    def joined(self, meeting):
        """The person who is joined in the meeting."""
        person = self._heads.get(meeting)
        if person is None:
            raise BadCrowd(meeting)
        return person

    def parting(self, row):
        """The list of the pairs of each head and the tuple of the group's members after the row has come."""
        groups = {}
        for person, (goes, sitting) in zip(row, steps(self.custom, row)):
            groups[person] = [person]
            if goes is not None:
                head = self.joined(one_more(sitting, goes))
                groups[head] = groups[head] + groups.pop(goes)
        return [(head, tuple(sorted(groups[head]))) for head in sorted(groups)]


def _who_stays(custom, meeting):
    """The list of the people of the meeting who do not go."""
    return [person for person in kinds_in(meeting) if person != custom.who_goes(meeting)]
