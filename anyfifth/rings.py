"""The rings: some notes in their order on a piece, and the arcs between them."""

from anyfifth.errors import BadFifth, BadNumber, BadPiece, Meets
from anyfifth.pieces import Piece
from anyfifth.plain import ascending, is_from_to, is_int
from anyfifth.ratios import Ratio
from anyfifth.tones import rise


class Ring:
    """The notes with some numbers, and note 0, in their order on a piece. It never changes."""

    def __init__(self, piece, *numbers):
        if not isinstance(piece, Piece):
            raise BadPiece("piece")
        for number in numbers:
            if not is_from_to(number, -48, 48):
                raise BadNumber(number)
        row = ascending([0, *numbers])
        meeting = first_meeting(row, piece)
        if meeting is not None:
            one, other, at = meeting
            raise Meets(one, other, at)
        self.piece = piece
        self.order = _order_of(row, piece)

    def place(self, number):
        """The index of a number in the order."""
        if number not in self:
            raise BadNumber(number)
        return self.order.index(number)

    def after(self, number):
        """The next number going up."""
        return self.order[(self.place(number) + 1) % len(self.order)]

    def before(self, number):
        """The next number going down."""
        return self.order[self.place(number) - 1]

    def walk(self, number):
        """Yield the numbers once around, going up, from this one on."""
        place = self.place(number)
        for one in self.order[place:] + self.order[:place]:
            yield one

    def is_between(self, first, middle, last):
        """Whether going up from first one comes to middle strictly ahead of last."""
        start, inside, end = self.place(first), self.place(middle), self.place(last)
        many = len(self.order)
        return 0 < (inside - start) % many < (end - start) % many

    def arcs(self):
        """Yield the arcs, going up from 0."""
        for arc in arcs_of(self.order, self.piece):
            yield arc

    def arc(self, number):
        """The arc that begins at a number."""
        return _arc_between(number, self.after(number), self.piece)

    def on(self, piece):
        """The Ring of these numbers on a piece that lies in this one or is it."""
        if not isinstance(piece, Piece) or not piece <= self.piece:
            raise BadPiece("piece")
        return Ring(piece, *self.order)

    def __call__(self, fifth):
        """The keys of the numbers, in their order, at a fraction in the piece."""
        if fifth not in self.piece:
            raise BadFifth(fifth)
        return tuple([number * fifth.top % fifth.bottom for number in self.order])

    def __contains__(self, x):
        return is_int(x) and x in self.order

    def __len__(self):
        return len(self.order)

    def __eq__(self, other):
        if not isinstance(other, Ring):
            return False
        return self.piece == other.piece and self.order == other.order


class Arc:
    """A paper: the way up from a number to the next one, its weights and its width."""

    def __init__(self, low, high, left, right, width):
        self.low = low
        self.high = high
        self.left = left
        self.right = right
        self.width = width

    def count(self, u, v):
        """How many keys are strictly inside it at the fraction with this spot."""
        return u * self.left + v * self.right - 1

    def __eq__(self, other):
        if not isinstance(other, Arc):
            return False
        return _fields_of(self) == _fields_of(other)


def _fields_of(arc):
    """The tuple of the attributes of an arc."""
    return arc.low, arc.high, arc.left, arc.right, arc.width


def arcs_of(order, piece):
    """The list of the arcs from each number of an order up to the next one, on a piece."""
    return [_arc_between(low, high, piece) for low, high in zip(order, order[1:] + order[:1])]


def first_meeting(numbers, piece):
    """Where ascending numbers first meet in a piece, and the least pair that meets there.

    The tuple (one, other, at), at with the least bottom, of several the least one; None if no two
    of the numbers meet in the piece.
    """
    if len(numbers) < 2:
        return None
    # A top that has a common divisor with the bottom would make a fraction with
    # a lesser bottom, which has been found before.
    for bottom in range(piece.reach, numbers[-1] - numbers[0] + 1):
        top = piece.left.top * bottom // piece.left.bottom + 1
        if top * piece.right.bottom < piece.right.top * bottom:
            pair = _first_alike(numbers, bottom)
            if pair is not None:
                one, other = pair
                return one, other, Ratio(top, bottom)
    return None


def _first_alike(numbers, bottom):
    """The least pair of ascending numbers with the same rest, None if there is none."""
    rests = {number % bottom: True for number in numbers}
    if len(rests) == len(numbers):
        return None
    for at, one in enumerate(numbers):
        for other in numbers[at + 1:]:
            if (other - one) % bottom == 0:
                return one, other
    return None


def _order_of(numbers, piece):
    """The tuple of numbers that meet nowhere in a piece, by their positions there."""
    # The order is the same throughout the piece, so the keys at its middle tell it.
    middle = piece.middle
    by_key = {number * middle.top % middle.bottom: number for number in numbers}
    return tuple([by_key[key] for key in ascending(list(by_key))])


def _arc_between(low, high, piece):
    """The arc from a number up to the next one, on a piece."""
    width = rise(high - low, piece)
    return Arc(low, high, _weight(width, piece.left), _weight(width, piece.right), width)


def _weight(width, end):
    """The weight of an arc: the pitch of its width at an end of the piece, as a number of its keys."""
    return width.fifths * end.top + width.octaves * end.bottom
