"""Two shares compared, however long their words are."""

from fewchairs.checks import check_kind_of
from fewchairs.crowds import one_more, with_count
from fewchairs.errors import WrongHouse
from fewchairs.shares import others


def parting(one, other):
    """A meeting from which the shares send away different kinds, or None if they are equal."""
    if one.chairs != other.chairs:
        raise WrongHouse("chairs")
    for kind in range(3):
        # The other shares keep more of this kind, so that they do not send it away.
        if one.keep[kind] < other.keep[kind]:
            return one_more(one.keep, kind)
    for kind in range(3):
        if one.words[kind] != other.words[kind]:
            return _parting_beside(one, other, kind)
    return None


def fewer_crowd(one, other, kind):
    """A crowd of which the first shares leave fewer of the kind than the second ones, or None."""
    check_kind_of(3, kind)
    many = one.chairs + other.chairs
    if one.chairs < other.chairs:
        return with_count((0, 0, 0), kind, many)
    for lacking in others(kind):
        counts = [shares.keep[lacking] - mark for shares in (one, other) for mark in _marks(shares.words[lacking])]
        for count in counts:
            crowd = with_count((many, many, many), lacking, count)
            if one.end(crowd)[kind] < other.end(crowd)[kind]:
                return crowd
    return None


def _marks(word):
    """The numbers of letters after which a stretch of the word begins or ends."""
    marks = [0]
    for _, length in word:
        marks.append(marks[-1] + length)
    return marks


def _parting_beside(one, other, kind):
    """The meeting at the first letter in which the words of the kind differ."""
    # There a stretch begins in one of the two words.
    marks = sorted(_marks(one.words[kind]) + _marks(other.words[kind]))
    first = [mark for mark in marks[:-2] if one.gains(kind, mark + 1) != other.gains(kind, mark + 1)][0]
    gained = one.gains(kind, first)
    counts = [count + more + 1 for count, more in zip(one.keep, gained)]
    return with_count(tuple(counts), kind, one.keep[kind] - first - 1)
