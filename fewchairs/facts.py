"""Facts: a custom of three kinds that is known by some crowds and their ends alone.

For a fixed `keep`, a fact demands something of the shares: None if it rules them all out, () if it demands
nothing, and (kind, many, low, high) if of the first `many` letters of the word of the kind at least `low` and
at most `high` must be the lesser one of the other two kinds. The room of a word has, for each number of its
first letters, the least and the most of them that may be this lesser kind; rooms are those of the three words.
"""

from fewchairs.checks import check_counts, is_seated
from fewchairs.crowds import size
from fewchairs.errors import BadNumber, NoSuchEnd
from fewchairs.sharecount import keeps_of
from fewchairs.shares import Shares, others

MOST_CHAIRS = 12


class Facts:
    """A custom with so many chairs that is known by facts, at first by none."""

    def __init__(self, chairs):
        if not 1 <= chairs <= MOST_CHAIRS:
            raise BadNumber(chairs)
        self.chairs = chairs
        self._facts = []
        # For each keep a dict from each demand to the number of the facts that make it.
        self._demands = {keep: {} for keep in keeps_of(chairs)}

    @property
    def told(self):
        """The list of the facts as pairs (crowd, end)."""
        return list(self._facts)

    def tell(self, crowd, end):
        """Adds a fact."""
        check_counts(3, crowd)
        if not is_seated(self.chairs, crowd, end):
            raise NoSuchEnd(end)
        self._facts.append((crowd, end))
        self._count(crowd, end, 1)

    def drop(self, at):
        """Removes the fact at this index."""
        if not 0 <= at < len(self._facts):
            raise BadNumber(at)
        crowd, end = self._facts.pop(at)
        self._count(crowd, end, -1)

    def fits(self, shares):
        """Whether the shares have so many chairs and fit all facts."""
        return shares.chairs == self.chairs and all([shares.end(crowd) == end for crowd, end in self._facts])

    def how_many(self):
        """How many shares fit."""
        number = 0
        for _, rooms in self._fitting():
            number = number + _words(rooms[0]) * _words(rooms[1]) * _words(rooms[2])
        return number

    def some(self):
        """Shares that fit, or None."""
        found = self._fitting()
        if not found:
            return None
        keep, rooms = found[0]
        return _shares_in(keep, rooms)

    def possible(self, crowd):
        """The ascending list of the ends that shares that fit give the crowd."""
        check_counts(3, crowd)
        return sorted({end for keep, rooms in self._fitting() for end in _ends_in(keep, rooms, crowd)})

    def answer(self, crowd):
        """("sure", end), ("open", one, other) or ("none",), as the shares that fit tell the end of the crowd."""
        found = self.possible(crowd)
        if not found:
            return ("none",)
        if len(found) == 1:
            return ("sure", found[0])
        return ("open", self._some_with(crowd, found[0]), self._some_with(crowd, found[-1]))

    def quarrel(self):
        """The ascending list of the indexes of the facts that quarrel, or None if shares fit."""
        if self._fitting():
            return None
        demands = {keep: _last_demands(keep, self._facts) for keep in self._demands}
        found = []
        while True:
            kept = [self._facts[at] for at in found]
            at = min([_needed_from(keep, kept, demands[keep], len(self._facts)) for keep in demands])
            if at == len(self._facts):
                return found
            found.append(at)

    def _count(self, crowd, end, by):
        """Counts the demands of a fact, or no longer counts them."""
        for keep in keeps_of(self.chairs):
            counts = self._demands[keep]
            demand = _demand(keep, crowd, end)
            counts[demand] = counts.get(demand, 0) + by
            if counts[demand] == 0:
                del counts[demand]

    def _fitting(self):
        """The list of the pairs of each keep with which shares fit and the rooms of their words."""
        found = []
        for keep, counts in self._demands.items():
            rooms = _narrowed(_free_rooms(keep), list(counts))
            if rooms is not None:
                found.append((keep, rooms))
        return found

    def _some_with(self, crowd, end):
        """Shares that fit and give the crowd the end; there are some."""
        for keep, rooms in self._fitting():
            inner = _narrowed(rooms, [_demand(keep, crowd, end)])
            if inner is not None:
                return _shares_in(keep, inner)
        return None


def _demand(keep, crowd, end):
    """What the fact demands of shares with this keep."""
    chairs = sum(keep)
    if size(crowd) < chairs:
        return ()
    lacking = [kind for kind in range(3) if crowd[kind] < keep[kind]]
    if not lacking:
        return () if end == keep else None
    kind = lacking[0]
    if end[kind] != crowd[kind]:
        return None
    many = keep[kind] - crowd[kind]
    other, least, most = _bounds(keep, crowd, kind)
    # An end at a bound tells less. If another kind lacks guests, the bounds alone decide.
    low = max(end[other] - keep[other], 0) if end[other] > least else 0
    high = min(end[other] - keep[other], many) if end[other] < most else many
    if low > high:
        return None
    return () if (low, high) == (0, many) else (kind, many, low, high)


def _bounds(keep, crowd, kind):
    """Beside a kind that lacks guests: the lesser other kind, and the bounds of how many of it are left."""
    other, third = others(kind)
    return (other, sum(keep) - crowd[kind] - crowd[third], crowd[other])


def _ends_in(keep, rooms, crowd):
    """The list of the ends that the shares in the rooms give the crowd."""
    if size(crowd) < sum(keep):
        return [crowd]
    lacking = [kind for kind in range(3) if crowd[kind] < keep[kind]]
    if not lacking:
        return [keep]
    kind = lacking[0]
    other, least, most = _bounds(keep, crowd, kind)
    low, high = [min(max(keep[other] + gained, least), most) for gained in rooms[kind][keep[kind] - crowd[kind]]]
    return [_end(keep, crowd, kind, count) for count in range(low, high + 1)]


def _end(keep, crowd, kind, count):
    """The end with all guests of the kind, so many of the lesser other kind, and the rest of the third."""
    counts = [0, 0, 0]
    other, third = others(kind)
    counts[kind] = crowd[kind]
    counts[other] = count
    counts[third] = sum(keep) - crowd[kind] - count
    return tuple(counts)


def _free_rooms(keep):
    """The rooms of all words."""
    return [[(0, many) for many in range(length + 1)] for length in keep]


def _narrowed(rooms, demands):
    """The rooms of the words that meet the demands, too, or None if there are none."""
    if None in demands:
        return None
    found = list(rooms)
    for demand in demands:
        if demand != ():
            kind, many, low, high = demand
            found[kind] = _narrowed_room(found[kind], many, low, high)
            if found[kind] is None:
                return None
    return found


def _narrowed_room(room, many, low, high):
    """The room with these bounds for the first `many` letters, or None if no word is left."""
    inner = []
    for at, bounds in enumerate(room):
        # Each letter adds one at most, and takes none away.
        least = max(bounds[0], low - max(many - at, 0))
        most = min(bounds[1], high + max(at - many, 0))
        if least > most:
            return None
        inner.append((least, most))
    return inner


def _words(room):
    """How many words are in the room."""
    numbers = {0: 1}
    for least, most in room[1:]:
        numbers = {many: numbers.get(many, 0) + numbers.get(many - 1, 0) for many in range(least, most + 1)}
    return sum(numbers.values())


def _shares_in(keep, rooms):
    """The shares in the rooms that have as few letters of the lesser kinds at the front as possible."""
    words = []
    for kind, room in enumerate(rooms):
        other, third = others(kind)
        words.append([other if room[at + 1][0] > room[at][0] else third for at in range(keep[kind])])
    return Shares.spelled(words[0], words[1], words[2])


def _last_demands(keep, told):
    """The list of the pairs of each demand's last fact and the demand, the last fact first."""
    last = {_demand(keep, crowd, end): at for at, (crowd, end) in enumerate(told)}
    return sorted([(last[demand], demand) for demand in last], reverse=True)


def _needed_from(keep, kept, demands, number):
    """The greatest index from which on the facts, with those that are kept, rule out the keep.

    It is `number` if those that are kept do so alone. All facts together do.
    """
    rooms = _free_rooms(keep)
    for at, demand in [(number, _demand(keep, crowd, end)) for crowd, end in kept] + demands:
        rooms = _narrowed(rooms, [demand])
        if rooms is None:
            return at
