"""The scales: rows of notes that can be changed."""

from anyfifth.errors import BadFifth, BadNumber, BadScale, BadText, TooMany
from anyfifth.pieces import Piece, fractions_to
from anyfifth.plain import ascending, integer_in, is_from_to, is_int
from anyfifth.ratios import Ratio
from anyfifth.regions import Region
from anyfifth.rings import Ring, first_meeting
from anyfifth.tones import rise


class Scale:
    """The numbers of some notes, in any order. It changes by its own methods and operators alone."""

    MOST = 16

    def __init__(self, *numbers):
        for at, number in enumerate(numbers):
            if not _is_note(number) or number in numbers[:at]:
                raise BadScale(at)
        if len(numbers) > Scale.MOST:
            raise TooMany("notes", Scale.MOST)
        # A tuple, of which each change makes a new one: who goes over the scale
        # goes over the numbers that stood there when he began.
        self._numbers = numbers

    @classmethod
    def read(cls, text):
        """The Scale with just this text."""
        if not isinstance(text, str):
            raise BadText(0, 0)
        if text == "-":
            return cls()
        numbers = []
        for at, word in enumerate(text.split(" ")):
            number = integer_in(word, 2)
            if number is None or not _is_note(number) or number in numbers or at == Scale.MOST:
                raise BadText(0, at)
            numbers.append(number)
        return cls(*numbers)

    @property
    def numbers(self):
        """The tuple of its numbers."""
        return self._numbers

    def backward(self):
        """Yield its numbers, the last one first."""
        for number in self._numbers[::-1]:
            yield number

    def drop(self, k):
        """Take the number with the index k out, and return it."""
        if not is_from_to(k, 0, len(self._numbers) - 1):
            raise BadScale(k)
        dropped = self._numbers[k]
        self._numbers = self._numbers[:k] + self._numbers[k + 1:]
        return dropped

    def put(self, number):
        """Put a number behind the others."""
        if not _is_note(number) or number in self._numbers:
            raise BadNumber(number)
        if len(self._numbers) == Scale.MOST:
            raise TooMany("notes", Scale.MOST)
        self._numbers = self._numbers + (number,)

    def cut(self, first, end):
        """A new Scale of the numbers with the indexes from first to end - 1."""
        if not is_from_to(first, 0, len(self._numbers)):
            raise BadScale(first)
        if not is_from_to(end, first, len(self._numbers)):
            raise BadScale(end)
        numbers = self._numbers[first:end]
        return Scale(*numbers)

    def twin(self):
        """An equal new Scale."""
        return Scale(*self._numbers)

    def groups(self, fifth):
        """The numbers that share a key, in groups that ascend by their keys."""
        if not Ratio.is_fifth(fifth):
            raise BadFifth(fifth)
        keys = _keys(self._numbers, fifth)
        groups = {key: [] for key in ascending(keys)}
        for number, key in zip(self._numbers, keys):
            groups[key].append(number)
        return tuple([tuple(group) for group in groups.values()])

    def ordered(self, piece):
        """The tuple of its numbers by their positions at all fifths of a piece."""
        ring = Ring(piece, *self._numbers)
        return tuple([number for number in ring.order if number in self._numbers])

    def steps(self, piece):
        """The pairs (width, many) of the steps around, by the fifths of the widths."""
        row = self.ordered(piece)
        steps = [high - low for low, high in zip(row, row[1:] + row[:1])]
        many = {step: 0 for step in ascending(steps)}
        for step in steps:
            many[step] = many[step] + 1
        # On a piece so many fifths have one width alone.
        return tuple([(rise(step, piece), times) for step, times in many.items()])

    def apart(self):
        """The Region of the fifths at which no two of its notes are at one position."""
        # Two of its notes are at most 24 fifths apart.
        meeting = [fifth for fifth in fractions_to(24) if not _are_apart(self._numbers, fifth)]
        return ~Region.only(*meeting)

    def order_region(self, numbers):
        """The Region of the fifths at which going up one comes to these numbers in this order, none together."""
        if not isinstance(numbers, (list, tuple)) or len(numbers) != len(self._numbers):
            raise BadScale(None)
        for number in numbers:
            if not is_int(number):
                raise BadScale(None)
        if ascending(numbers) != ascending(self._numbers):
            raise BadScale(None)
        return _region_of_order(tuple(numbers), Piece.whole())

    def __call__(self, fifth):
        """The keys of its notes at a fifth, in the order of the scale."""
        if not Ratio.is_fifth(fifth):
            raise BadFifth(fifth)
        return tuple(_keys(self._numbers, fifth))

    def __iter__(self):
        return iter(self._numbers)

    def __len__(self):
        return len(self._numbers)

    def __contains__(self, x):
        return is_int(x) and x in self._numbers

    def __getitem__(self, at):
        if not is_from_to(at, 0, len(self._numbers) - 1):
            raise BadScale(at)
        return self._numbers[at]

    def __setitem__(self, at, worth):
        if not is_from_to(at, 0, len(self._numbers) - 1):
            raise BadScale(at)
        others = self._numbers[:at] + self._numbers[at + 1:]
        if not _is_note(worth) or worth in others:
            raise BadNumber(worth)
        self._numbers = self._numbers[:at] + (worth,) + self._numbers[at + 1:]

    def __iadd__(self, other):
        self._numbers = _raised(self._numbers, other)
        return self

    def __add__(self, other):
        numbers = _raised(self._numbers, other)
        return Scale(*numbers)

    def __neg__(self):
        numbers = [-number for number in self._numbers]
        return Scale(*numbers)

    def __eq__(self, other):
        if not isinstance(other, Scale):
            return False
        return self._numbers == other._numbers

    def __str__(self):
        if len(self._numbers) == 0:
            return "-"
        return " ".join([str(number) for number in self._numbers])


def _is_note(value):
    """Whether any value is a number that a scale may have."""
    return is_from_to(value, -12, 12)


def _raised(numbers, more):
    """The tuple of numbers of a scale, each greater by so much. Refuses what takes one out of bounds."""
    if not is_int(more):
        raise BadNumber(more)
    raised = tuple([number + more for number in numbers])
    for number in raised:
        if not _is_note(number):
            raise BadNumber(more)
    return raised


def _keys(numbers, fifth):
    """The list of the keys of notes at a fraction."""
    return [number * fifth.top % fifth.bottom for number in numbers]


def _are_apart(numbers, fifth):
    """Whether no two notes are on one key at a fraction."""
    return len(ascending(_keys(numbers, fifth))) == len(numbers)


def _region_of_order(order, piece):
    """The Region of this order in a piece, with the piece brought to that of all fifths."""
    # The truth at the middle is that of the whole piece where no two notes meet.
    truth = _is_in_order(order, piece.middle)
    if first_meeting(ascending(order), piece) is None:
        return Region.every() if truth else Region.none()
    left, right = piece.halves
    return Region.joined(truth, _region_of_order(order, left), _region_of_order(order, right))


def _is_in_order(order, fifth):
    """Whether going up from the first note one comes to the others one after another."""
    keys = [(number - order[0]) * fifth.top % fifth.bottom for number in order]
    return all([low < high for low, high in zip(keys, keys[1:])])
