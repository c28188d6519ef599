"""The terms of sayings, fixed and moving notes, and the heights above them."""

from anyfifth.errors import BadFifth, BadNumber, BadTerm
from anyfifth.plain import is_from_to, is_int
from anyfifth.ratios import Ratio
from anyfifth.tones import Tone


class Term:
    """A note that a saying speaks of: the base of Note and Moving, not made itself. It never changes.

    What the interface lists for a term stands in the bodies of Note and Moving, too, since they are what is made.
    """

    def __init__(self, number):
        if not is_from_to(number, -12, 12):
            raise BadTerm("number")
        self.number = number

    @property
    def is_moving(self):
        """Whether it is note n + number, not the note with this number."""
        return isinstance(self, Moving)

    def note(self, n):
        """The number of its note for n."""
        if not is_int(n):
            raise BadNumber(n)
        return n + self.number if self.is_moving else self.number

    def position(self, n, fifth):
        """The position of its note for n at a fraction."""
        note = self.note(n)
        if not Ratio.is_fifth(fifth):
            raise BadFifth(fifth)
        return Ratio(note * fifth.top % fifth.bottom, fifth.bottom)

    def moved(self, number):
        """A term of the same class with so much more."""
        if not is_int(number):
            raise BadTerm("number")
        return _alike(self, self.number + number)

    def mirrored(self):
        """A term of the same class with the negative number."""
        return _alike(self, -self.number)

    def __eq__(self, other):
        if not isinstance(other, Term):
            return False
        return self.is_moving == other.is_moving and self.number == other.number


class Note(Term):
    """The note with this number, whatever n is."""

    def __init__(self, number):
        Term.__init__(self, number)

    @property
    def is_moving(self):
        """Whether it is note n + number: it is not."""
        return False

    def note(self, n):
        """The number of its note for n."""
        return super().note(n)

    def position(self, n, fifth):
        """The position of its note for n at a fraction."""
        return super().position(n, fifth)

    def moved(self, number):
        """A Note with so much more."""
        return super().moved(number)

    def mirrored(self):
        """The Note with the negative number."""
        return super().mirrored()


class Moving(Term):
    """Note n + number."""

    def __init__(self, number):
        Term.__init__(self, number)

    @property
    def is_moving(self):
        """Whether it is note n + number: it is."""
        return True

    def note(self, n):
        """The number of its note for n."""
        return super().note(n)

    def position(self, n, fifth):
        """The position of its note for n at a fraction."""
        return super().position(n, fifth)

    def moved(self, number):
        """A Moving with so much more."""
        return super().moved(number)

    def mirrored(self):
        """The Moving with the negative number."""
        return super().mirrored()


class Height:
    """A tone above the position of a term's note. It never changes."""

    def __init__(self, tone, term):
        if not isinstance(tone, Tone) or not is_near(tone):
            raise BadTerm("tone")
        if not isinstance(term, Term):
            raise BadTerm("term")
        self.tone = tone
        self.term = term

    def pitch(self, n, fifth):
        """The pitch of the tone and the position of the term's note together, for n at a fraction."""
        return self.term.position(n, fifth) + self.tone(fifth)

    def moved(self, number):
        """The height with its term moved."""
        return Height(self.tone, self.term.moved(number))

    def mirrored(self):
        """The height that has this pitch for -n at 1 - f."""
        octaves, fifths = self.tone.octaves, self.tone.fifths
        return Height(Tone(octaves + fifths, -fifths), self.term.mirrored())

    def __eq__(self, other):
        if not isinstance(other, Height):
            return False
        return self.tone == other.tone and self.term == other.term


def is_near(tone):
    """Whether a tone has the octaves and fifths of a height."""
    return is_from_to(tone.octaves, -20, 20) and is_from_to(tone.fifths, -20, 20)


def _alike(term, number):
    """The term of the same class with this number."""
    return Moving(number) if term.is_moving else Note(number)
