"""The melodies: pitches that go on for ever in rounds of the same moves."""

from anyfifth.errors import BadFifth, BadMove, BadNumber, BadRatio, BadRound, BadTone, TooMany
from anyfifth.plain import is_from_to, is_short
from anyfifth.ratios import Ratio, is_short_fifth
from anyfifth.sayings import Even, Higher
from anyfifth.terms import Height, Moving, is_near
from anyfifth.tones import Tone

_MOST_MOVES = 8


class Move:
    """The base of Shift and Bring, not made itself. It never changes.

    Each class below has led(pitch, fifth): the Ratio of the pitch to which it leads from one.
    """

    def __init__(self, tone):
        if not isinstance(tone, Tone):
            raise BadTone("tone")
        self.tone = tone

    def __eq__(self, other):
        if not isinstance(other, Move):
            return False
        return isinstance(self, Bring) == isinstance(other, Bring) and self.tone == other.tone


class Shift(Move):
    """The pitch becomes greater by that of the tone."""

    def __init__(self, tone):
        Move.__init__(self, tone)

    def led(self, pitch, fifth):
        """The pitch to which it leads."""
        return self.tone(fifth) + pitch


class Bring(Move):
    """Whole octaves are taken from the pitch, or added, until it is less than an octave above that of the tone."""

    def __init__(self, tone):
        Move.__init__(self, tone)

    def led(self, pitch, fifth):
        """The pitch to which it leads."""
        low = self.tone(fifth)
        return low + (pitch - low) % 1


class Melody:
    """The pitch of a tone, and the moves of a round. It never changes."""

    def __init__(self, start, *moves):
        if not isinstance(start, Tone):
            raise BadTone("start")
        for at, move in enumerate(moves):
            if not isinstance(move, Move):
                raise BadMove(at)
        if len(moves) > _MOST_MOVES:
            raise TooMany("moves", _MOST_MOVES)
        self.start = start
        self.moves = moves
        self._height = _height_of(start, moves)

    @property
    def height(self):
        """The Height whose pitch is that behind n rounds, from one round on."""
        return self._height

    def after(self, pitch, fifth):
        """The pitch behind one round that begins at a number."""
        if not Ratio.is_number(pitch):
            raise BadRatio("pitch")
        if not is_short_fifth(fifth):
            raise BadFifth(fifth)
        for move in self.moves:
            pitch = move.led(pitch, fifth)
        return pitch

    def pitch(self, n, fifth):
        """The pitch behind n rounds from start on."""
        _check_rounds(n, fifth)
        return self.start(fifth) if n == 0 else self._height.pitch(n, fifth)

    def played(self, n, fifth):
        """Yield the pitches behind 0, 1 and so on to n rounds from start on."""
        _check_rounds(n, fifth)
        pitch = self.start(fifth)
        yield pitch
        for _ in range(n):
            pitch = self.after(pitch, fifth)
            yield pitch

    def alike(self, other):
        """The saying that both melodies are at one pitch behind n rounds."""
        if not isinstance(other, Melody):
            raise BadRound("other")
        return Even(self._height, other._height)

    def above(self, other):
        """The saying that this melody is above the other one behind n rounds."""
        if not isinstance(other, Melody):
            raise BadRound("other")
        return Higher(self._height, other._height)

    def __add__(self, other):
        moves = self.moves + (other,)
        return Melody(self.start, *moves)

    def __len__(self):
        return len(self.moves)

    def __eq__(self, other):
        if not isinstance(other, Melody):
            return False
        return self.start == other.start and self.moves == other.moves


def _check_rounds(n, fifth):
    """Refuse what is no number of rounds, and what is no fifth with at most 40 figures."""
    if not is_short(n) or n < 0:
        raise BadNumber(n)
    if not is_short_fifth(fifth):
        raise BadFifth(fifth)


def _height_of(start, moves):
    """The Height of the melody with these moves. Refuses moves that make no round."""
    brings = [at for at, move in enumerate(moves) if isinstance(move, Bring)]
    if brings == []:
        raise BadRound("bring")
    last = brings[-1]
    ahead, behind = _shifted(moves[:last]), _shifted(moves[last:])
    if ahead.fifths + behind.fifths != 1:
        raise BadRound("fifths")
    # Ahead of the last Bring of round n the pitch differs by whole octaves from
    # that of note s + n - 1 + c.
    brought = moves[last].tone
    tone, number = brought + behind, start.fifths - 1 + ahead.fifths - brought.fifths
    if not is_from_to(number, -12, 12) or not is_near(tone):
        raise BadRound("height")
    return Height(tone, Moving(number))


def _shifted(moves):
    """The sum of the tones of the Shifts among moves."""
    tones = [move.tone for move in moves if isinstance(move, Shift)]
    return Tone(sum([tone.octaves for tone in tones]), sum([tone.fifths for tone in tones]))
