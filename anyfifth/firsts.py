"""For which numbers a saying holds at one fifth: the first ones, the last ones, and how many."""

from anyfifth.counters import counter_of
from anyfifth.errors import BadFifth, BadNumber, BadSaying
from anyfifth.plain import is_from_to, is_short
from anyfifth.ratios import is_short_fifth
from anyfifth.sayings import Saying


def first_n(saying, fifth, start=0):
    """The least n from start on for which a saying holds at a fifth, None if there is none."""
    _check(saying, fifth, [start])
    return counter_of(saying, fifth, True).least(0, start)


def last_n(saying, fifth, start=0):
    """The greatest n up to start for which a saying holds at a fifth, None if there is none."""
    _check(saying, fifth, [start])
    return counter_of(saying, fifth, True).greatest(start)


def how_many(saying, fifth, begin, end):
    """For how many n from begin to end - 1 a saying holds at a fifth."""
    _check(saying, fifth, [begin, end])
    if end <= begin:
        return 0
    counter = counter_of(saying, fifth, True)
    return counter.before(end) - counter.before(begin)


def nth(saying, fifth, k, start=0):
    """The n from start on for which a saying holds, as it does for just k numbers ahead of it from start on."""
    _check(saying, fifth, [])
    if not is_short(k) or k < 0:
        raise BadNumber(k)
    _check_numbers([start])
    return counter_of(saying, fifth, True).least(k, start)


def first_in(fifth, low, high, start=0):
    """The least n from start on whose note is on one of the keys from low to high."""
    if not is_short_fifth(fifth):
        raise BadFifth(fifth)
    if not is_from_to(low, 0, fifth.bottom - 1):
        raise BadNumber(low)
    if not is_from_to(high, low, fifth.bottom - 1):
        raise BadNumber(high)
    _check_numbers([start])
    # The keys are told from that of note start on.
    key = start * fifth.top % fifth.bottom
    nearer, further = (low - key) % fifth.bottom, (high - key) % fifth.bottom
    if nearer == 0 or further < nearer:
        return start
    return start + _steps_to(nearer, further, fifth.top, fifth.bottom)


def _check(saying, fifth, numbers):
    """Refuse what is no saying, no fifth with at most 40 figures, and the first one that is no such integer."""
    if not isinstance(saying, Saying):
        raise BadSaying("saying")
    if not is_short_fifth(fifth):
        raise BadFifth(fifth)
    _check_numbers(numbers)


def _check_numbers(numbers):
    """Refuse the first value that is no integer of at most 40 figures."""
    for value in numbers:
        if not is_short(value):
            raise BadNumber(value)


def _steps_to(low, high, step, bottom):
    """How many equal steps lead from key 0 first to one of the keys from low to high, all above 0."""
    # If the steps of one round pass these keys by, it is asked how many rounds
    # it takes: each one leads by bottom less a multiple of step. That is the
    # same question with lesser numbers.
    passed = []
    while high // step * step < low:
        passed.append((low, step, bottom))
        low, high, step, bottom = -high % step, -low % step, bottom % step, step
    steps = -(-low // step)
    for low, step, bottom in passed[::-1]:
        steps = -(-(low + steps * bottom) // step)
    return steps
