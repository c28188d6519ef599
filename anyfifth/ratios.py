"""Exact fractions, and which values are numbers and fifths."""

from math import gcd

from anyfifth.errors import BadRatio, BadText, NoDivisor
from anyfifth.plain import integer_in, is_int, is_short, written


class Ratio:
    """The fraction top / bottom in lowest terms, with a bottom from 1 on. It never changes."""

    def __init__(self, top, bottom=1):
        if not is_int(top):
            raise BadRatio("top")
        if not is_int(bottom):
            raise BadRatio("bottom")
        if bottom == 0:
            raise NoDivisor()
        divisor = gcd(top, bottom) if bottom > 0 else -gcd(top, bottom)
        self.top = top // divisor
        self.bottom = bottom // divisor

    @staticmethod
    def is_number(value):
        """Whether any value is an integer or a Ratio."""
        return is_int(value) or isinstance(value, Ratio)

    @staticmethod
    def is_fifth(value):
        """Whether any value is a Ratio above 0 and below 1."""
        return isinstance(value, Ratio) and 0 < value.top < value.bottom

    @staticmethod
    def of(number):
        """The Ratio of a number."""
        if isinstance(number, Ratio):
            return number
        if not is_int(number):
            raise BadRatio("number")
        return Ratio(number)

    @staticmethod
    def total(numbers):
        """The sum of a list or tuple of numbers."""
        if not isinstance(numbers, (list, tuple)):
            raise BadRatio("numbers")
        for number in numbers:
            if not Ratio.is_number(number):
                raise BadRatio("numbers")
        return _summed(numbers)

    @classmethod
    def read(cls, text):
        """The Ratio with just this text."""
        found = ratio_in(text)
        if found is None:
            raise BadText(0, 0)
        return cls(found.top, found.bottom)

    @property
    def is_whole(self):
        """Whether the bottom is 1."""
        return self.bottom == 1

    def over(self, number):
        """This Ratio divided by a number."""
        top, bottom = parts_of(number)
        return Ratio(self.top * bottom, self.bottom * top)

    def __add__(self, other):
        if not Ratio.is_number(other):
            return NotImplemented
        top, bottom = parts_of(other)
        return Ratio(self.top * bottom + top * self.bottom, self.bottom * bottom)

    def __radd__(self, other):
        return self + other

    def __sub__(self, other):
        if not Ratio.is_number(other):
            return NotImplemented
        top, bottom = parts_of(other)
        return Ratio(self.top * bottom - top * self.bottom, self.bottom * bottom)

    def __rsub__(self, other):
        return -self + other

    def __mul__(self, other):
        if not Ratio.is_number(other):
            return NotImplemented
        top, bottom = parts_of(other)
        return Ratio(self.top * top, self.bottom * bottom)

    def __rmul__(self, other):
        return self * other

    def __floordiv__(self, other):
        if not Ratio.is_number(other):
            return NotImplemented
        return _quotient(self, other)

    def __rfloordiv__(self, other):
        if not Ratio.is_number(other):
            return NotImplemented
        return _quotient(other, self)

    def __mod__(self, other):
        if not Ratio.is_number(other):
            return NotImplemented
        return self - _quotient(self, other) * Ratio.of(other)

    def __rmod__(self, other):
        if not Ratio.is_number(other):
            return NotImplemented
        return Ratio.of(other) % self

    def __neg__(self):
        return Ratio(-self.top, self.bottom)

    def __abs__(self):
        return Ratio(abs(self.top), self.bottom)

    def __bool__(self):
        return bool(self.top)

    def __eq__(self, other):
        if not Ratio.is_number(other):
            return False
        return parts_of(self) == parts_of(other)

    def __lt__(self, other):
        if not Ratio.is_number(other):
            return NotImplemented
        return _lead(self, other) < 0

    def __le__(self, other):
        if not Ratio.is_number(other):
            return NotImplemented
        return _lead(self, other) <= 0

    def __gt__(self, other):
        if not Ratio.is_number(other):
            return NotImplemented
        return _lead(self, other) > 0

    def __ge__(self, other):
        if not Ratio.is_number(other):
            return NotImplemented
        return _lead(self, other) >= 0

    def __str__(self):
        return f"{written(self.top)}/{written(self.bottom)}"


def parts_of(number):
    """The pair of the top and the bottom of a number."""
    if isinstance(number, Ratio):
        return number.top, number.bottom
    return number, 1


def is_short_fifth(value):
    """Whether any value is a Ratio that is a fifth, with a bottom of at most 40 figures."""
    return Ratio.is_fifth(value) and is_short(value.bottom)


def ratio_in(text):
    """The Ratio with just this text, None for any other value."""
    if not isinstance(text, str):
        return None
    first, _, last = text.partition("/")
    top, bottom = integer_in(first, 60), integer_in(last, 60)
    if top is None or bottom is None or bottom < 1 or gcd(top, bottom) > 1:
        return None
    return Ratio(top, bottom)


def _lead(one, other):
    """An integer with the sign of one - other."""
    top, bottom = parts_of(one)
    other_top, other_bottom = parts_of(other)
    return top * other_bottom - other_top * bottom


def _quotient(one, other):
    """The greatest integer that is not above one / other."""
    top, bottom = parts_of(one)
    other_top, other_bottom = parts_of(other)
    if other_top == 0:
        raise NoDivisor()
    return (top * other_bottom) // (bottom * other_top)


def _summed(numbers):
    """The sum of numbers, by halves: so few sums have long bottoms."""
    if len(numbers) == 0:
        return Ratio(0)
    if len(numbers) == 1:
        return Ratio.of(numbers[0])
    half = len(numbers) // 2
    return _summed(numbers[:half]) + _summed(numbers[half:])
