"""What the tests share: strict comparing, the check of an error, and the document's examples."""

from anyfifth import errors
from anyfifth.pieces import Piece
from anyfifth.ratios import Ratio


def any_values():
    """Values of all kinds that a caller may pass."""
    return [
        None, True, False, 0, 1, 2, -1, 10 ** 60 - 1, -(10 ** 60 - 1), "", "a", "1", "1/2", "0/1 1/1", "\n",
        (), (1,), (1, 2), [], [1], [Ratio(1, 2)], {}, {"a": 1}, {1: [2]}, Ratio(0), Ratio(1), Ratio(2), Ratio(1, 2),
        Ratio(-1, 2), Ratio(3, 2), Piece.whole(), Piece(0, Ratio(1, 2)), errors.NoChange(), errors.BadNumber(1),
    ]


def same(one, other):
    """Whether two values are equal and of the same kinds throughout."""
    if one.__class__ is not other.__class__:
        return False
    if isinstance(one, (list, tuple)):
        return len(one) == len(other) and all(same(a, b) for a, b in zip(one, other))
    if isinstance(one, dict):
        return same(list(one), list(other)) and same(list(one.values()), list(other.values()))
    if isinstance(one, errors.FifthError):
        return same(vars(one), vars(other))
    return one == other


def check_same(case, value, expected):
    if not same(value, expected):
        case.fail(f"{value!r} is not {expected!r}")


def check_raises(case, expected, call, *given, **named):
    """call raises just the error expected, with the same fields."""
    try:
        returned = call(*given, **named)
    except errors.FifthError as error:
        if not same(error, expected):
            case.fail(f"{error!r} {vars(error)} is not {expected!r} {vars(expected)}")
        return
    case.fail(f"{expected!r} was not raised for {given!r} {named!r}, but {returned!r} was returned")


def check_examples(case, text, names):
    """Each line behind >>> gives the value of the line below it, or raises what that line tells."""
    rows = [row.strip() for row in text.strip().split("\n")]
    for at, row in enumerate(rows):
        if not row.startswith(">>> "):
            continue
        told = rows[at + 1] if at + 1 < len(rows) else ">>> "
        if told.startswith(">>> "):
            exec(row[4:], names)
        elif told.startswith("raises "):
            expected = eval(told[7:], dict(names, **vars(errors)))
            check_raises(case, expected, eval, row[4:], names)
        else:
            check_same(case, eval(row[4:], names), eval(told, names))
