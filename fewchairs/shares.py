"""Shares: customs of three kinds with any number of chairs, written as three numbers and three words."""

from fewchairs.checks import check_counts, check_kind_of
from fewchairs.crowds import size, with_count
from fewchairs.errors import BadCrowd, BadNumber, BadShares, TooLarge

MOST_CHAIRS = 1000000000000000000
MOST_STRETCHES = 200
MOST_LETTERS = 1000


class Shares:
    """Shares: of each kind the number that is kept, and its word as a tuple of stretches."""

    def __init__(self, keep, words):
        if len(keep) != 3 or not all([count >= 0 for count in keep]) or not 1 <= sum(keep) <= MOST_CHAIRS:
            raise BadShares("keep")
        if len(words) != 3 or not all([_is_word(words[kind], kind, keep[kind]) for kind in range(3)]):
            raise BadShares("words")
        self.keep = keep
        self.words = words
        self.chairs = sum(keep)

    @staticmethod
    def spelled(first, second, third):
        """The shares with the three words, each given as a list of its letters."""
        keep = (len(first), len(second), len(third))
        return Shares(keep, (_stretches(first), _stretches(second), _stretches(third)))

    def __eq__(self, other):
        return isinstance(other, Shares) and self.keep == other.keep and self.words == other.words

    def letters(self, kind):
        """The word of the kind as a list of letters."""
        check_kind_of(3, kind)
        if self.keep[kind] > MOST_LETTERS:
            raise TooLarge(self.keep[kind])
        return [letter for letter, length in self.words[kind] for _ in range(length)]

    def gains(self, kind, lacking):
        """How many of the first so many letters of the word of the kind are of each kind."""
        check_kind_of(3, kind)
        if not 0 <= lacking <= self.keep[kind]:
            raise BadNumber(lacking)
        counts = [0, 0, 0]
        missing = lacking
        for letter, length in self.words[kind]:
            counts[letter] = counts[letter] + min(length, missing)
            missing = missing - min(length, missing)
        return tuple(counts)

    def end(self, crowd):
        """The end of the crowd."""
        check_counts(3, crowd)
        if size(crowd) < self.chairs:
            return crowd
        lacking = [kind for kind in range(3) if crowd[kind] < self.keep[kind]]
        if not lacking:
            return self.keep
        # If another kind lacks guests, too, the bounds leave all of them.
        return self._end_beside(crowd, lacking[0])

    def goes(self, meeting):
        """The kind that goes from the meeting."""
        if size(meeting) != self.chairs + 1:
            raise BadCrowd(meeting)
        end = self.end(meeting)
        return [kind for kind in range(3) if meeting[kind] > end[kind]][0]

    def _end_beside(self, crowd, kind):
        """The end of a crowd in which this kind lacks guests."""
        other, third = others(kind)
        gained = self.gains(kind, self.keep[kind] - crowd[kind])[other]
        chairs = self.chairs - crowd[kind]
        count = min(max(self.keep[other] + gained, chairs - crowd[third]), crowd[other])
        return with_count(with_count(crowd, other, count), third, chairs - count)


def others(kind):
    """The two other kinds, the lesser one first."""
    return [found for found in range(3) if found != kind]


def _is_word(word, kind, length):
    """Whether the tuple of stretches is a word of the kind with so many letters."""
    if len(word) > MOST_STRETCHES or not all([len(stretch) == 2 for stretch in word]):
        return False
    letters = [letter for letter, _ in word]
    lengths = [count for _, count in word]
    return (all([0 <= letter < 3 and letter != kind for letter in letters])
            and all([count >= 1 for count in lengths]) and sum(lengths) == length
            and all([letters[at] != letters[at - 1] for at in range(1, len(letters))]))


def _stretches(letters):
    """The list of letters as a tuple of stretches."""
    stretches = []
    for letter in letters:
        if stretches and stretches[-1][0] == letter:
            stretches[-1] = (letter, stretches[-1][1] + 1)
        else:
            stretches.append((letter, 1))
    return tuple(stretches)
