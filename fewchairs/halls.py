"""Live halls: runs that go on step by step."""

from fewchairs.checks import check_kind
from fewchairs.crowds import minus, one_more, size
from fewchairs.errors import NobodyAway
from fewchairs.runs import arrive, check_guest


class Hall:
    """A live hall with a custom, at first without guests."""

    def __init__(self, custom):
        self.custom = custom
        self._came = (0,) * custom.house.kinds
        self._sitting = self._came

    @property
    def sitting(self):
        """The crowd that sits."""
        return self._sitting

    @property
    def came(self):
        """The crowd that came."""
        return self._came

    @property
    def away(self):
        """The crowd that is away."""
        return minus(self._came, self._sitting)

    @property
    def free(self):
        """The number of free chairs."""
        return self.custom.house.chairs - size(self._sitting)

    def come(self, kind):
        """A guest comes; the kind that goes, or None."""
        check_guest(self.custom.house, self._came, kind)
        self._came = one_more(self._came, kind)
        return self._seat(kind)

    def again(self, kind):
        """A guest who is away comes again; the kind that goes."""
        check_kind(self.custom.house, kind)
        if self.away[kind] == 0:
            raise NobodyAway(kind)
        return self._seat(kind)

    def _seat(self, kind):
        """Lets a guest join those who sit; the kind that goes, or None."""
        goes, self._sitting = arrive(self.custom, self._sitting, kind)
        return goes


class LoggedHall(Hall):
    """A live hall that keeps a log."""

    def __init__(self, custom):
        super().__init__(custom)
        self._log = []

    @property
    def log(self):
        """The list of the tuples (word, kind, goes) of all that happened."""
        return list(self._log)

    def come(self, kind):
        """A guest comes; the kind that goes, or None."""
        goes = super().come(kind)
        self._log.append(("come", kind, goes))
        return goes

    def again(self, kind):
        """A guest who is away comes again; the kind that goes."""
        goes = super().again(kind)
        self._log.append(("again", kind, goes))
        return goes


class CountedHall(Hall):
    """A live hall that counts how often a guest of each kind has gone."""

    def __init__(self, custom):
        super().__init__(custom)
        self._sent = (0,) * custom.house.kinds

    @property
    def sent(self):
        """The tuple of the numbers of how often a guest of each kind has gone."""
        return self._sent

    def come(self, kind):
        """A guest comes; the kind that goes, or None."""
        goes = super().come(kind)
        if goes is not None:
            self._sent = one_more(self._sent, goes)
        return goes

    def again(self, kind):
        """A guest who is away comes again; the kind that goes."""
        goes = super().again(kind)
        self._sent = one_more(self._sent, goes)
        return goes


class BookHall(LoggedHall, CountedHall):
    """A live hall that keeps a log and counts."""

    def come(self, kind):
        """A guest comes; the kind that goes, or None."""
        return super().come(kind)

    def again(self, kind):
        """A guest who is away comes again; the kind that goes."""
        return super().again(kind)
