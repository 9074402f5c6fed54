"""Drafts: customs that are being written."""

from fewchairs.checks import check_meeting
from fewchairs.customs import Custom
from fewchairs.errors import BadKind, Unfinished


class Draft:
    """A draft of a custom of the house, at first without answers."""

    def __init__(self, house):
        self.house = house
        self._answers = {}

    def __setitem__(self, at, worth):
        self.put(at, worth)

    def __getitem__(self, at):
        check_meeting(self.house, at)
        return self._answers.get(at)

    def __iter__(self):
        return iter(self._answers)

    def put(self, meeting, kind):
        """Sets the answer for the meeting."""
        check_meeting(self.house, meeting)
        if not 0 <= kind < self.house.kinds or meeting[kind] == 0:
            raise BadKind(kind)
        # A new dict each time: whoever iterates over the draft may change it meanwhile.
        answers = {known: self._answers[known] for known in self._answers}
        answers[meeting] = kind
        self._answers = answers

    def drop(self, meeting):
        """Removes the answer for the meeting, if there is one."""
        check_meeting(self.house, meeting)
        self._answers = {known: self._answers[known] for known in self._answers if known != meeting}

    def missing(self):
        """The ascending list of the meetings without an answer."""
        return [meeting for meeting in self.house.meetings() if meeting not in self._answers]

    def finished(self):
        """The custom that has been written."""
        missing = self.missing()
        if missing:
            raise Unfinished(missing[0])
        return Custom.of(self.house, self._answers)
