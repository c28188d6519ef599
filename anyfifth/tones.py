"""The tones: pairs of octaves and fifths, and where notes stand on a piece."""

from anyfifth.errors import BadFifth, BadText, BadTone, Meets
from anyfifth.pieces import met
from anyfifth.plain import integer_in, is_int, written
from anyfifth.ratios import Ratio
from anyfifth.regions import Region


class Tone:
    """So many octaves and so many fifths. It never changes."""

    def __init__(self, octaves, fifths=0):
        if not is_int(octaves):
            raise BadTone("octaves")
        if not is_int(fifths):
            raise BadTone("fifths")
        self.octaves = octaves
        self.fifths = fifths

    @classmethod
    def read(cls, text):
        """The Tone with just this text."""
        found = tone_in(text)
        if found is None:
            raise BadText(0, 0)
        return cls(found.octaves, found.fifths)

    def __call__(self, fifth):
        """The pitch at a fifth."""
        if not Ratio.is_fifth(fifth):
            raise BadFifth(fifth)
        return self.fifths * fifth + self.octaves

    def above(self, other):
        """The Region of the fifths at which its pitch is above that of other."""
        if not isinstance(other, Tone):
            raise BadTone("other")
        lead = self - other
        if lead.fifths == 0:
            return Region.every() if lead.octaves > 0 else Region.none()
        # The pitches are equal at this number, be it a fifth or not.
        level = Ratio(-lead.octaves, lead.fifths)
        if lead.fifths > 0:
            return Region.stretch(_into_octave(level), 1)
        return Region.stretch(0, _into_octave(level))

    def level(self, other):
        """The Region of the fifths at which its pitch is that of other."""
        if not isinstance(other, Tone):
            raise BadTone("other")
        lead = self - other
        if lead.fifths == 0:
            return Region.every() if lead.octaves == 0 else Region.none()
        level = Ratio(-lead.octaves, lead.fifths)
        return Region.only(level) if Ratio.is_fifth(level) else Region.none()

    def __add__(self, other):
        if not isinstance(other, Tone):
            return NotImplemented
        return Tone(self.octaves + other.octaves, self.fifths + other.fifths)

    def __sub__(self, other):
        if not isinstance(other, Tone):
            return NotImplemented
        return Tone(self.octaves - other.octaves, self.fifths - other.fifths)

    def __neg__(self):
        return Tone(-self.octaves, -self.fifths)

    def __mul__(self, other):
        if not is_int(other):
            return NotImplemented
        return Tone(self.octaves * other, self.fifths * other)

    def __rmul__(self, other):
        return self * other

    def __eq__(self, other):
        if not isinstance(other, Tone):
            return False
        return self.octaves == other.octaves and self.fifths == other.fifths

    def __bool__(self):
        return bool(self.octaves != 0 or self.fifths != 0)

    def __str__(self):
        return f"{written(self.octaves)},{written(self.fifths)}"


def tone_in(text):
    """The Tone with just this text, None for any other value."""
    if not isinstance(text, str):
        return None
    first, _, last = text.partition(",")
    octaves, fifths = integer_in(first, 60), integer_in(last, 60)
    if octaves is None or fifths is None:
        return None
    return Tone(octaves, fifths)


def position(number, piece):
    """The Tone whose pitch is the position of the note with this number at all fifths of a piece."""
    at = met(number, piece)
    if at is not None:
        one, other = (number, 0) if number < 0 else (0, number)
        raise Meets(one, other, at)
    return Tone(0) if number == 0 else rise(number, piece)


def rise(number, piece):
    """The tone that leads up from a note to the next place of the note that is so many fifths further.

    The two meet nowhere in the piece. From a note to itself it is the whole octave.
    """
    if number == 0:
        return Tone(1)
    # The whole octaves are the same throughout the piece, so its middle tells them.
    top = piece.left.top + piece.right.top
    return Tone(-(number * top // piece.reach), number)


def _into_octave(ratio):
    """The number from 0 to 1 that is next to a Ratio."""
    if ratio < 0:
        return Ratio(0)
    return ratio if ratio < 1 else Ratio(1)
