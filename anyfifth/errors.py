"""All errors of the package. Each keeps its fields as they are and looks at none of them."""


class FifthError(ValueError):
    """The base of all errors."""


class BadInput(FifthError):
    """A value is not what it must be."""


class Refused(FifthError):
    """The values are right, but what is asked for is not done with them."""


class NoAnswer(FifthError):
    """There is nothing that could be returned."""


class BadRatio(BadInput):
    """A part of a ratio, or a value that must be a number, is none."""

    def __init__(self, part):
        self.part = part


class BadFifth(BadInput):
    """A value is no fifth that fits here."""

    def __init__(self, value):
        self.value = value


class BadNumber(BadInput):
    """A value is no number that fits here."""

    def __init__(self, value):
        self.value = value


class BadPiece(BadInput):
    """A part of a piece, or a value that must be a piece, is none."""

    def __init__(self, part):
        self.part = part


class BadTruth(BadInput):
    """A value that must be a bool is none."""

    def __init__(self, value):
        self.value = value


class BadTone(BadInput):
    """A part of a tone, or a value that must be a tone, is none."""

    def __init__(self, part):
        self.part = part


class BadTerm(BadInput):
    """A part of a term or of a height is wrong."""

    def __init__(self, part):
        self.part = part


class BadSaying(BadInput):
    """A part of a saying, or a value that must be a saying or a sentence, is none."""

    def __init__(self, part):
        self.part = part


class BadRegion(BadInput):
    """A value does not tell a region."""

    def __init__(self, value):
        self.value = value


class BadScale(BadInput):
    """A number, an index or a list does not fit a scale."""

    def __init__(self, at):
        self.at = at


class BadMove(BadInput):
    """A value that must be a move of a melody is none."""

    def __init__(self, at):
        self.at = at


class BadRound(BadInput):
    """The moves of a melody make no round that comes back."""

    def __init__(self, part):
        self.part = part


class BadName(BadInput):
    """A value is no name of a promise."""

    def __init__(self, value):
        self.value = value


class BadText(BadInput):
    """A text has a word that cannot stand where it stands."""

    def __init__(self, line, word):
        self.line = line
        self.word = word


class BadCommand(BadInput):
    """A line begins with no known command."""

    def __init__(self, word):
        self.word = word


class NoDivisor(Refused):
    """A division by 0."""


class NoName(Refused):
    """A book has no promise of this name."""

    def __init__(self, name):
        self.name = name


class Meets(Refused):
    """Two notes meet at a fraction in the piece."""

    def __init__(self, one, other, at):
        self.one = one
        self.other = other
        self.at = at


class TooMany(Refused):
    """There is more of something than is let."""

    def __init__(self, what, most):
        self.what = what
        self.most = most


class Broken(Refused):
    """A promise of a book would not hold any more."""

    def __init__(self, name, verdict):
        self.name = name
        self.verdict = verdict


class NoChange(NoAnswer):
    """No change is left that could be taken back."""
