"""What the tests know of sayings by themselves: keys, marks by the document's table, and sayings of all kinds."""

import itertools

from anyfifth.sayings import All, Any, At, Below, Between, Even, Higher, Joined, Not
from anyfifth.sentences import Each, Some
from anyfifth.terms import Height, Moving, Note
from anyfifth.tones import Tone


def note_of(term, n):
    return n + term.number if isinstance(term, Moving) else term.number


def holds(saying, n, p, q):
    """Whether a saying holds for n at p/q, by the keys of its notes."""
    if isinstance(saying, All):
        return all(holds(one, n, p, q) for one in saying.sayings)
    if isinstance(saying, Any):
        return any(holds(one, n, p, q) for one in saying.sayings)
    if isinstance(saying, Not):
        return not holds(saying.saying, n, p, q)
    if isinstance(saying, Between):
        s, t, u = (note_of(term, n) for term in (saying.first, saying.inside, saying.last))
        return 0 < (t - s) * p % q < (u - s) * p % q
    if isinstance(saying, (At, Below)):
        one, other = note_of(saying.one, n) * p % q, note_of(saying.other, n) * p % q
        return one == other if isinstance(saying, At) else one < other
    one, other = pitch_of(saying.one, n, p, q), pitch_of(saying.other, n, p, q)
    return one > other if isinstance(saying, Higher) else one == other


def pitch_of(height, n, p, q):
    """The pitch of a height, counted in keys."""
    return height.tone.octaves * q + height.tone.fifths * p + note_of(height.term, n) * p % q


def marks_of(saying):
    """The marks by the document's table, without 0."""
    if isinstance(saying, Not):
        return marks_of(saying.saying)
    if isinstance(saying, Joined):
        return {mark for one in saying.sayings for mark in marks_of(one)}
    if isinstance(saying, Between):
        terms = (saying.first, saying.inside, saying.last)
        moving = [term.number for term in terms if isinstance(term, Moving)]
        fixed = [term.number for term in terms if isinstance(term, Note)]
        if moving and fixed:
            return {c - b for c in fixed for b in moving}
        return set(moving + fixed)
    k = 0
    one, other = saying.one, saying.other
    if isinstance(saying, (Higher, Even)):
        k = one.tone.fifths - other.tone.fifths
        one, other = one.term, other.term
    b, c = one.number, other.number
    kinds = isinstance(one, Moving), isinstance(other, Moving)
    if isinstance(saying, (Higher, Even)):
        return {(False, False): {b, c, k + b - c}, (True, True): {-b, -c, k + b - c},
                (True, False): {-b, c, c - k, c - k - b}, (False, True): {-c, b, b + k, b + k - c}}[kinds]
    if kinds[0] == kinds[1]:
        return {-b, -c} if kinds[0] else {b, c}
    moving, fixed = (b, c) if kinds[0] else (c, b)
    return {fixed - moving} if isinstance(saying, At) else {-moving, fixed - moving, fixed}


def terms(*numbers):
    return [made(number) for made in (Note, Moving) for number in numbers]


def comparisons():
    """Comparisons of each class, with fixed and moving terms in all places."""
    found = []
    for one, other in itertools.product(terms(0, 1, -3), terms(0, 2, -3)):
        found.extend([At(one, other), Below(one, other)])
    for one, other, last in itertools.product(terms(0, 5), terms(-1, 2), terms(0, 3)):
        found.append(Between(one, other, last))
    tones = [Tone(0), Tone(0, 2), Tone(1, -1), Tone(-1, 3)]
    for (at, one), (place, other) in itertools.product(enumerate(terms(0, 4)), enumerate(terms(0, -2))):
        low, high = tones[(at + place) % 4], tones[(at + 2 * place + 1) % 4]
        found.extend([Higher(Height(high, one), Height(low, other)), Even(Height(low, one), Height(high, other))])
        found.extend([Even(Height(Tone(0, 1), one), Height(Tone(1, -1), other)), Higher(Height(low, one), Height(low, other))])
    return found


def some_sayings():
    """Comparisons and what is made of them, of different depths."""
    base = comparisons()
    found = base[::2]
    for at in range(0, len(base) - 12, 5):
        one, other, last = base[at], base[at + 5], base[at + 11]
        found.append([All(one, other), Any(one, other, last), Not(one), one & ~other, Not(All(one, Not(last))),
                      Any(All(one, other), All(~one, last)), All(Any(one, last), Any(other, ~last))][at % 7])
    inside = Between(Note(0), Moving(0), Note(1))
    found.extend([All(), Any(), Not(All()), All(All(), Any(), inside), inside & ~Between(Note(0), Moving(0), Note(2))])
    return found


def widest():
    """A saying with twelve comparisons, 37 marks and a span of 48."""
    told = [(-5, -3, -18), (11, 0, 6), (-8, -10, -20), (12, -11, -10), (4, 5, -1), (-9, -4, -11), (8, 11, -1),
            (6, -2, 16), (-3, 7, -12), (-1, -11, 5), (7, 9, -15), (-9, 8, -3)]
    rows = [Higher(Height(Tone(-(k // 2), k), Moving(b)), Height(Tone(0), Note(c))) for b, c, k in told]
    return Any(*[All(rows[at], Any(rows[at + 1], ~rows[at + 2])) for at in range(0, 12, 3)])


def sentences(starts):
    """Sentences of sayings of all kinds, with starts by turns."""
    found = []
    for at, saying in enumerate(some_sayings()):
        found.append(Some(saying, starts[at % len(starts)]))
        found.append(Each(saying, starts[(at // 2 + 1) % len(starts)]))
    deep = Any(All(Any(All(Any(Between(Note(0), Moving(0), Note(1)), At(Moving(1), Note(3)))))))
    found.extend([Some(deep, starts[-1]), Each(deep, starts[0])])
    return found


def is_true_at(sentence, fifth):
    """Whether a sentence is true at a fraction, by all its keys from the start on."""
    start = sentence.start or 0
    truths = (holds(sentence.saying, n, fifth.top, fifth.bottom) for n in range(start, start + fifth.bottom))
    return any(truths) if isinstance(sentence, Some) else all(truths)


def truth_beside(sentence, piece):
    """Whether a sentence is true at the fifths in a piece that are no fraction.

    By the keys of a fraction that is far in the piece: of those close to the marks, and of the marks from the start
    on. Notes far from all marks fill each arc.
    """
    wanted = isinstance(sentence, Some)
    fifth = piece.ratio(10 ** 12 + 39, 618033988791)
    p, q = fifth.top, fifth.bottom
    marks = sorted(marks_of(sentence.saying) | {0}, key=lambda mark: mark * p % q)
    keys = [mark * p % q for mark in marks]
    inverse = pow(p, -1, q)
    for low, high in zip(keys, keys[1:] + [q]):
        if holds(sentence.saying, (low + high) // 2 * inverse % q, p, q) == wanted:
            return wanted
    for mark in marks:
        if sentence.start is None or mark >= sentence.start:
            if holds(sentence.saying, mark, p, q) == wanted:
                return wanted
    return not wanted
