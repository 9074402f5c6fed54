"""Crowds: tuples with one count for each kind."""

from fewchairs.errors import BadCrowd, BadKind, TooLarge

LONGEST_ROW = 1000


def size(crowd):
    """The number of guests."""
    return sum(crowd)


def plus(first, second):
    """The crowd of the sums."""
    return tuple([count + more for count, more in zip(first, second)])


def minus(first, second):
    """The crowd of the differences; the second crowd must be within the first one."""
    if not within(second, first):
        raise BadCrowd(second)
    return tuple([count - less for count, less in zip(first, second)])


def within(first, second):
    """Whether the first crowd is within the second one."""
    return all([count <= bound for count, bound in zip(first, second)])


def lesser(first, second):
    """The crowd of the lesser counts."""
    return tuple([min(count, other) for count, other in zip(first, second)])


def greater(first, second):
    """The crowd of the greater counts."""
    return tuple([max(count, other) for count, other in zip(first, second)])


def kinds_in(crowd):
    """The ascending list of the kinds in the crowd."""
    return [kind for kind, count in enumerate(crowd) if count > 0]


def with_count(crowd, kind, count):
    """The crowd with another count of one kind."""
    return crowd[:kind] + (count,) + crowd[kind + 1:]


def one_more(crowd, kind):
    """The crowd and one more guest of the kind."""
    return with_count(crowd, kind, crowd[kind] + 1)


def one_less(crowd, kind):
    """The crowd less one guest of the kind."""
    return with_count(crowd, kind, crowd[kind] - 1)


def crowd_of(kinds, *guests):
    """The crowd of so many kinds with the given guests."""
    counts = [0] * kinds
    for kind in guests:
        if not 0 <= kind < kinds:
            raise BadKind(kind)
        counts[kind] = counts[kind] + 1
    return tuple(counts)


def row_of(crowd):
    """The ascending row of the crowd."""
    if size(crowd) > LONGEST_ROW:
        raise TooLarge(size(crowd))
    return [kind for kind, count in enumerate(crowd) for _ in range(count)]


def parts(crowd, number):
    """Yields all crowds of this size within the crowd, in ascending order."""
    part = _first_part(crowd, number)
    while part is not None:
        yield part
        part = _next_part(crowd, part)


def part_list(crowd, number):
    """The list of what `parts` yields; it stands by itself, since operators and properties use no generator."""
    found = []
    part = _first_part(crowd, number)
    while part is not None:
        found.append(part)
        part = _next_part(crowd, part)
    return found


def _first_part(crowd, number):
    """The least crowd of this size within the crowd, or None if there is none."""
    if not 0 <= number <= size(crowd):
        return None
    counts = []
    missing = number
    # The least tuple has its guests as far back as they find room.
    for room in reversed(list(crowd)):
        counts.append(min(room, missing))
        missing = missing - min(room, missing)
    return tuple(counts[::-1])


def _next_part(crowd, part):
    """The crowd of the same size within the crowd that comes next after the part, or None."""
    behind = 0
    for kind in reversed(range(len(part))):
        if behind > 0 and part[kind] < crowd[kind]:
            return part[:kind] + (part[kind] + 1,) + _first_part(crowd[kind + 1:], behind - 1)
        behind = behind + part[kind]
    return None
