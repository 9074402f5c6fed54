"""The errors of the package.

The messages name no values: a number may have too many digits to be written out.
"""


class HallError(ValueError):
    """The base class of all errors of the package."""


class BadHouse(HallError):
    """An argument of a house is out of its bounds."""

    def __init__(self, what):
        super().__init__("an argument of the house is out of its bounds")
        self.what = what


class BadCrowd(HallError):
    """A crowd is not one that is wanted here."""

    def __init__(self, crowd):
        super().__init__("this is not a crowd that is wanted here")
        self.crowd = crowd


class BadKind(HallError):
    """A kind is not one that is wanted here."""

    def __init__(self, kind):
        super().__init__("this is not a kind that is wanted here")
        self.kind = kind


class BadOrder(HallError):
    """A list does not contain each kind exactly once."""

    def __init__(self, at):
        super().__init__("the list does not contain each kind exactly once")
        self.at = at


class BadCustom(HallError):
    """Answers do not fit the meetings."""

    def __init__(self, at):
        super().__init__("the answers do not fit the meetings")
        self.at = at


class BadNumber(HallError):
    """A number is out of its bounds."""

    def __init__(self, number):
        super().__init__("the number is out of its bounds")
        self.number = number


class TooManyOf(HallError):
    """More guests of a kind would come than may ever come."""

    def __init__(self, kind):
        super().__init__("there are too many guests of a kind")
        self.kind = kind


class TooLarge(HallError):
    """Something is too large to be gone through."""

    def __init__(self, size):
        super().__init__("this is too large")
        self.size = size


class Unfinished(HallError):
    """An answer is still missing."""

    def __init__(self, meeting):
        super().__init__("a meeting has no answer yet")
        self.meeting = meeting


class NobodyAway(HallError):
    """No guest of a kind is away."""

    def __init__(self, kind):
        super().__init__("no guest of this kind is away")
        self.kind = kind


class NobodyThere(HallError):
    """No guest of a kind is there."""

    def __init__(self, kind):
        super().__init__("no guest of this kind is there")
        self.kind = kind


class NotFree(HallError):
    """A custom is not order-free."""

    def __init__(self, group):
        super().__init__("the custom is not order-free")
        self.group = group


class WrongHouse(HallError):
    """A house is not one that is wanted here."""

    def __init__(self, what):
        super().__init__("this is not a house that is wanted here")
        self.what = what


class NoSuchEnd(HallError):
    """A crowd is not left."""

    def __init__(self, crowd):
        super().__init__("this crowd is not left")
        self.crowd = crowd


class BadSeats(HallError):
    """An entry of a seating is wrong."""

    def __init__(self, crowd):
        super().__init__("an entry of the seating is wrong")
        self.crowd = crowd


class Clash(HallError):
    """A seating has a clash."""

    def __init__(self, crowd, kind, other):
        super().__init__("the seating has a clash")
        self.crowd = crowd
        self.kind = kind
        self.other = other


class BadShares(HallError):
    """An argument of shares is wrong."""

    def __init__(self, what):
        super().__init__("an argument of the shares is wrong")
        self.what = what


class BadCards(HallError):
    """Cards are wrong."""

    def __init__(self, at):
        super().__init__("the cards are wrong")
        self.at = at


class BadRoute(HallError):
    """A route is wrong."""

    def __init__(self, kind):
        super().__init__("the route of a kind is wrong")
        self.kind = kind


class NotUnderWay(HallError):
    """No guest of a kind is under way to a hall."""

    def __init__(self, kind, hall):
        super().__init__("no guest of this kind is under way to this hall")
        self.kind = kind
        self.hall = hall


class NotNested(HallError):
    """Rules are not nested."""

    def __init__(self, chairs, crowd):
        super().__init__("the rules are not nested")
        self.chairs = chairs
        self.crowd = crowd


class NoChair(HallError):
    """A number of chairs is out of its bounds."""

    def __init__(self, chairs):
        super().__init__("there is no such number of chairs")
        self.chairs = chairs


class BadText(HallError):
    """A text is not a written form."""

    def __init__(self, text):
        super().__init__("the text is not a written form")
        self.text = text


class BadLine(HallError):
    """A line is not understood."""

    def __init__(self, number, reason):
        super().__init__("a line is not understood")
        self.number = number
        self.reason = reason


class NothingToUndo(HallError):
    """There is no step to undo or to do again."""

    def __init__(self, word):
        super().__init__("there is no such step")
        self.word = word
