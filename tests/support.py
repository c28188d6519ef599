"""What the tests share: strict comparing, the check of an error, and the document's examples."""

import itertools
import time
from fractions import Fraction

from anyfifth import errors
from anyfifth.books import Book
from anyfifth.desk import Desk
from anyfifth.melodies import Bring, Melody, Shift
from anyfifth.pieces import Piece
from anyfifth.ratios import Ratio
from anyfifth.regions import Region
from anyfifth.rings import Arc, Ring
from anyfifth.sayings import All, At, Even
from anyfifth.scales import Scale
from anyfifth.sentences import Each, Fails, Holds, Some
from anyfifth.tallies import Part, tally
from anyfifth.terms import Height, Moving, Note
from anyfifth.tones import Tone


def any_values():
    """Values of all kinds that a caller may pass."""
    return plain_values() + [
        Region.every(), Tone(0), Tone(1, -1), Ring(Piece.whole()), Arc(0, 0, 1, 1, Tone(1)), Scale(), Scale(0, 1),
        Note(0), Moving(1), Height(Tone(0), Note(0)), All(), At(Note(0), Moving(0)), tally(All()),
        Even(Height(Tone(0), Note(0)), Height(Tone(0), Note(0))), Part(Piece.whole(), 1, 1, 0, Tone(1)),
        Some(All()), Each(At(Note(0), Moving(0)), 1), Holds(), Fails(Ratio(1, 2), 0, None), Shift(Tone(0, 1)),
        Bring(Tone(0)), Melody(Tone(0), Shift(Tone(0, 1)), Bring(Tone(0))), Book(), Desk(),
    ]


def plain_values():
    """Those of them that the first three files have."""
    return [
        None, True, False, 0, 1, 2, -1, 10 ** 60 - 1, -(10 ** 60 - 1), "", "a", "1", "1/2", "0/1 1/1", "\n",
        (), (1,), (1, 2), [], [1], [Ratio(1, 2)], {}, {"a": 1}, {1: [2]}, Ratio(0), Ratio(1), Ratio(2), Ratio(1, 2),
        Ratio(-1, 2), Ratio(3, 2), Piece.whole(), Piece(0, Ratio(1, 2)), errors.NoChange(), errors.BadNumber(1),
    ]


def same(one, other):
    """Whether two values are equal and of the same kinds throughout."""
    if one.__class__ is not other.__class__:
        return False
    if isinstance(one, (list, tuple)):
        return len(one) == len(other) and all(same(a, b) for a, b in zip(one, other))
    if isinstance(one, dict):
        return same(list(one), list(other)) and same(list(one.values()), list(other.values()))
    if isinstance(one, errors.FifthError):
        return same(vars(one), vars(other))
    return one == other


def check_same(case, value, expected):
    if not same(value, expected):
        case.fail(f"{value!r} is not {expected!r}")


def check_raises(case, expected, call, *given, **named):
    """call raises just the error expected, with the same fields."""
    try:
        returned = call(*given, **named)
    except errors.FifthError as error:
        if not same(error, expected):
            case.fail(f"{error!r} {vars(error)} is not {expected!r} {vars(expected)}")
        return
    case.fail(f"{expected!r} was not raised for {given!r} {named!r}, but {returned!r} was returned")


def check_first_raises(case, expected, call, *given, **named):
    """The generator that call returns raises just this error, when its first item is requested at the latest."""
    check_raises(case, expected, lambda: next(call(*given, **named)))


def check_quick(case, call, *given, **named):
    """What call returns, which must not take long."""
    start = time.perf_counter()
    returned = call(*given, **named)
    case.assertLess(time.perf_counter() - start, 3)
    return returned


def exact(number):
    return Fraction(number.top, number.bottom) if isinstance(number, Ratio) else Fraction(number)


def ratio_of(fraction):
    return Ratio(fraction.numerator, fraction.denominator)


def row_to(most):
    """All fractions from 0 to 1 with bottoms up to most, ascending."""
    return sorted({Fraction(top, bottom) for bottom in range(1, most + 1) for top in range(bottom + 1)})


def fifths_to(most):
    """All fifths with bottoms up to most, ascending."""
    return [ratio_of(one) for one in row_to(most)[1:-1]]


def all_pieces(most):
    """All pieces whose ends have bottoms up to most."""
    row = row_to(most)
    pairs = itertools.combinations(row, 2)
    return [Piece(ratio_of(one), ratio_of(other)) for one, other in pairs
            if one.denominator * other.numerator - one.numerator * other.denominator == 1]


def some_wide_regions():
    """Regions of all kinds: stretches, single fractions, neighbours, with and without fractions, none and all."""
    half, third = Ratio(1, 2), Ratio(1, 3)
    bare = Region.leaf(False, False, False, False, True)
    found = [Region.every(), Region.none(), Region.rational(), bare, Region.leaf(True, False, False, True, False)]
    for low, high in ((0, half), (half, 1), (third, Ratio(2, 5)), (Ratio(4, 7), Ratio(3, 5)), (Ratio(1, 48), Ratio(1, 2))):
        stretch = Region.stretch(low, high)
        found.extend([stretch, stretch & bare, stretch - bare, ~stretch, stretch ^ Region.beside(half, "left")])
    for fifth in (half, third, Ratio(5, 12), Ratio(30, 49), Ratio(7, 55)):
        found.extend([Region.only(fifth), ~Region.only(fifth, Ratio(2, 5)), Region.beside(fifth, "right")])
    found.append(Region.joined(True, found[2], Region.joined(False, bare, found[5])))
    return found


def key_of(note, fifth):
    """The key of a note at a fifth, counted by whole octaves taken away."""
    place = note * exact(fifth)
    return int((place - place.__floor__()) * fifth.bottom)


def check_examples(case, text, names):
    """Each line behind >>> gives the value of the line below it, or raises what that line tells."""
    rows = [row.strip() for row in text.strip().split("\n")]
    for at, row in enumerate(rows):
        if not row.startswith(">>> "):
            continue
        told = rows[at + 1] if at + 1 < len(rows) else ">>> "
        if told.startswith(">>> "):
            exec(row[4:], names)
        elif told.startswith("raises "):
            expected = eval(told[7:], dict(names, **vars(errors)))
            check_raises(case, expected, eval, row[4:], names)
        else:
            check_same(case, eval(row[4:], names), eval(told, names))
