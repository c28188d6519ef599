"""The pieces between neighbouring fractions, and the fractions in them."""

from math import gcd

from anyfifth.errors import BadFifth, BadNumber, BadPiece, BadRatio, BadText, BadTruth
from anyfifth.plain import is_int, is_short
from anyfifth.ratios import Ratio, parts_of, ratio_in


class Piece:
    """The set of all fifths strictly between two neighbours. It never changes."""

    def __init__(self, left, right):
        if not _is_left_end(left):
            raise BadPiece("left")
        if not _is_right_end(right):
            raise BadPiece("right")
        if not _are_neighbours(left, right):
            raise BadPiece("neighbours")
        self.left = Ratio.of(left)
        self.right = Ratio.of(right)

    @staticmethod
    def whole():
        """The piece of all fifths."""
        return Piece(0, 1)

    @classmethod
    def read(cls, text):
        """The piece with just this text."""
        if not isinstance(text, str):
            raise BadText(0, 0)
        words = text.split(" ")
        left = ratio_in(words[0])
        if not _is_left_end(left):
            raise BadText(0, 0)
        if len(words) == 1:
            raise BadText(0, 1)
        right = ratio_in(words[1])
        if not _is_right_end(right):
            raise BadText(0, 1)
        if len(words) > 2:
            raise BadText(0, 2)
        if not _are_neighbours(left, right):
            raise BadText(0, 1)
        return cls(left, right)

    @property
    def middle(self):
        """The fraction of the added tops and the added bottoms of the ends."""
        return Ratio(self.left.top + self.right.top, self.left.bottom + self.right.bottom)

    @property
    def halves(self):
        """The pair of the pieces on both sides of the middle."""
        middle = self.middle
        return Piece(self.left, middle), Piece(middle, self.right)

    @property
    def reach(self):
        """The least bottom of a fraction in the piece."""
        return self.left.bottom + self.right.bottom

    def ratio(self, u, v):
        """The fraction with this spot."""
        if not _is_from_one_on(u):
            raise BadNumber(u)
        if not _is_from_one_on(v) or gcd(u, v) > 1:
            raise BadNumber(v)
        top = u * self.left.top + v * self.right.top
        return Ratio(top, u * self.left.bottom + v * self.right.bottom)

    def spot(self, fifth):
        """The pair (u, v) that tells where a fraction stands in the piece."""
        found = _spot(self, fifth)
        if found is None:
            raise BadFifth(fifth)
        return found

    def kind(self, fifth):
        """The kind of a fraction in the piece, a word."""
        u, v = self.spot(fifth)
        if u == 1 and v == 1:
            return "middle"
        if v == 1:
            return "left"
        if u == 1:
            return "right"
        return "other"

    def __contains__(self, x):
        return _spot(self, x) is not None

    def __le__(self, other):
        if not isinstance(other, Piece):
            return NotImplemented
        return other.left <= self.left and self.right <= other.right

    def __eq__(self, other):
        if not isinstance(other, Piece):
            return False
        return self.left == other.left and self.right == other.right

    def __str__(self):
        return f"{self.left} {self.right}"


def fractions_to(most, *, backward=False):
    """Yield the fifths with bottoms up to most, ascending or descending."""
    _check_row(most, backward)
    for _, (top, bottom) in _row(most, backward):
        if bottom > 1:
            yield Ratio(top, bottom)


def pieces_to(most, *, backward=False):
    """Yield the pieces between neighbours among these fractions, 0/1 and 1/1."""
    _check_row(most, backward)
    for (a, b), (c, d) in _row(most, backward):
        if backward:
            yield Piece(Ratio(c, d), Ratio(a, b))
        else:
            yield Piece(Ratio(a, b), Ratio(c, d))


def simplest(low, high):
    """The Ratio with the least bottom strictly between two numbers from 0 to 1."""
    if not _is_in_octave(low):
        raise BadRatio("low")
    if not _is_in_octave(high) or high <= low:
        raise BadRatio("high")
    # A fraction is simplest between two others if its inverse is simplest
    # between their inverses, also less a whole number. 1/0 stands for the
    # inverse of 0, above all fractions.
    bottom, top = parts_of(high)
    far_bottom, far_top = parts_of(low)
    quotients = []
    while (top // bottom + 1) * far_bottom >= far_top:
        whole = top // bottom
        quotients.append(whole)
        top, bottom, far_top, far_bottom = (
            far_bottom, far_top - whole * far_bottom, bottom, top - whole * bottom)
    last = top // bottom + 1
    return ratio_by(*quotients, last)


def path(fifth):
    """The tuple of the quotients by which a fifth is divided down to 0."""
    if not Ratio.is_fifth(fifth):
        raise BadFifth(fifth)
    quotients = []
    top, bottom = fifth.top, fifth.bottom
    while top > 0:
        quotients.append(bottom // top)
        top, bottom = bottom % top, top
    return tuple(quotients)


def ratio_by(*quotients):
    """The fifth with this path."""
    for value in quotients:
        if not _is_from_one_on(value):
            raise BadNumber(value)
    if not quotients:
        raise BadNumber(None)
    if quotients[-1] == 1:
        raise BadNumber(1)
    last_top, last_bottom, top, bottom = 1, 0, 0, 1
    for value in quotients:
        last_top, top = top, value * top + last_top
        last_bottom, bottom = bottom, value * bottom + last_bottom
    return Ratio(top, bottom)


def piece_at(fifth, most):
    """The piece among those of pieces_to(most) that has this fifth in it, None if there is none."""
    if not Ratio.is_fifth(fifth):
        raise BadFifth(fifth)
    if not is_short(most) or most < 1:
        raise BadNumber(most)
    if fifth.bottom <= most:
        return None
    # u and v are the spot of the fifth in the piece (a/b, c/d). Equal turns
    # are taken at once, so that the work grows with the figures alone.
    a, b, c, d = 0, 1, 1, 1
    u, v = fifth.bottom - fifth.top, fifth.top
    while b + d <= most:
        if v > u:
            turns = _lesser((v - 1) // u, (most - b) // d)
            a, b, v = a + turns * c, b + turns * d, v - turns * u
        else:
            turns = _lesser((u - 1) // v, (most - d) // b)
            c, d, u = c + turns * a, d + turns * b, u - turns * v
    return Piece(Ratio(a, b), Ratio(c, d))


def met(number, piece):
    """The simplest fraction in the piece whose bottom divides number, None if there is none."""
    if not is_int(number) or not -96 <= number <= 96:
        raise BadNumber(number)
    if not isinstance(piece, Piece):
        raise BadPiece("piece")
    # The least bottom is found first, so top and bottom have no common divisor.
    for bottom in range(piece.reach, abs(number) + 1):
        if number % bottom == 0:
            top = piece.left.top * bottom // piece.left.bottom + 1
            if top * piece.right.bottom < piece.right.top * bottom:
                return Ratio(top, bottom)
    return None


def _is_left_end(value):
    """Whether any value is a number from 0 on and below 1."""
    return Ratio.is_number(value) and 0 <= value and value < 1


def _is_right_end(value):
    """Whether any value is a number above 0 and at most 1."""
    return Ratio.is_number(value) and 0 < value and value <= 1


def _is_in_octave(value):
    """Whether any value is a number from 0 to 1."""
    return Ratio.is_number(value) and 0 <= value and value <= 1


def _is_from_one_on(value):
    """Whether any value is an integer from 1 on."""
    return is_int(value) and value >= 1


def _are_neighbours(left, right):
    """Whether two numbers are neighbours, left the lesser one."""
    a, b = parts_of(left)
    c, d = parts_of(right)
    return b * c - a * d == 1


def _spot(piece, value):
    """The spot of any value in a piece, None if it is no Ratio in it."""
    if not isinstance(value, Ratio):
        return None
    left, right = piece.left, piece.right
    u = right.top * value.bottom - right.bottom * value.top
    v = left.bottom * value.top - left.top * value.bottom
    return (u, v) if u > 0 and v > 0 else None


def _check_row(most, backward):
    """Refuse what fractions_to and pieces_to refuse."""
    if not is_int(most) or not 1 <= most <= 10000:
        raise BadNumber(most)
    if not isinstance(backward, bool):
        raise BadTruth(backward)


def _row(most, backward):
    """Yield each two (top, bottom) that follow one another from end to end of the octave."""
    a, b, c, d = (1, 1, most - 1, most) if backward else (0, 1, 1, most)
    yield (a, b), (c, d)
    while d > 1:
        # The next fraction has the greatest bottom up to most that makes it a
        # neighbour of c/d, in both directions.
        turns = (most + b) // d
        a, b, c, d = c, d, turns * c - a, turns * d - b
        yield (a, b), (c, d)


def _lesser(one, other):
    """The lesser one of two integers."""
    return one if one < other else other
