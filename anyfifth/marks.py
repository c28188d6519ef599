"""The marks of comparisons: the numbers n at which what they say of note n may change."""


def marks_of_at(one, other):
    """The marks of At for two terms."""
    b, c = one.number, other.number
    if one.is_moving == other.is_moving:
        return _marks_alike(one, other)
    return [b - c if other.is_moving else c - b]


def marks_of_below(one, other):
    """The marks of Below for two terms."""
    if one.is_moving == other.is_moving:
        return _marks_alike(one, other)
    moving, fixed = (one, other) if one.is_moving else (other, one)
    return [-moving.number, fixed.number - moving.number, fixed.number]


def marks_of_between(terms):
    """The marks of Between for three terms."""
    moving = [term.number for term in terms if term.is_moving]
    fixed = [term.number for term in terms if not term.is_moving]
    if moving == [] or fixed == []:
        return moving + fixed
    return [c - b for c in fixed for b in moving]


def marks_of_heights(one, other):
    """The marks of Higher and Even for two heights."""
    b, c = one.term.number, other.term.number
    k = one.tone.fifths - other.tone.fifths
    if one.term.is_moving and other.term.is_moving:
        return [-b, -c, k + b - c]
    if one.term.is_moving:
        return [-b, c, c - k, c - k - b]
    if other.term.is_moving:
        return [-c, b, b + k, b + k - c]
    return [b, c, k + b - c]


def _marks_alike(one, other):
    """The marks of At and Below for two terms that are both fixed or both moving."""
    if one.is_moving:
        return [-one.number, -other.number]
    return [one.number, other.number]
