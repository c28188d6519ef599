"""The sentences: that a saying holds for some number or for each one, and at which fifths this is true."""

from anyfifth.counters import counter_of
from anyfifth.errors import BadFifth, BadNumber, BadRegion, BadSaying
from anyfifth.plain import is_short
from anyfifth.ratios import Ratio
from anyfifth.regions import Region
from anyfifth.rings import Ring
from anyfifth.sayings import Saying, truths_by
from anyfifth.tallies import count, part_by, settled
from anyfifth.trees import WHOLE, half_ends, middle_of, piece_of
from anyfifth.truths import tree_of


class Sentence:
    """The base of Some and Each, not made itself. It never changes.

    The region stands in the bodies of Some and Each, too, since they are what is made.
    """

    def __init__(self, saying, start):
        if not isinstance(saying, Saying):
            raise BadSaying("saying")
        if start is not None and not is_short(start):
            raise BadNumber(start)
        self.saying = saying
        self.start = start

    def region(self):
        """The Region of the fifths at which it is true."""
        return region_by(self, paper(self))

    def __call__(self, fifth):
        """Whether it is true at a fraction."""
        if not Ratio.is_fifth(fifth):
            raise BadFifth(fifth)
        return _is_true_at(self, fifth)

    def __invert__(self):
        saying = ~self.saying
        return Each(saying, self.start) if isinstance(self, Some) else Some(saying, self.start)

    def __eq__(self, other):
        if not isinstance(other, Sentence):
            return False
        return isinstance(self, Some) == isinstance(other, Some) and _given_to(self) == _given_to(other)


class Some(Sentence):
    """A saying holds for some number, from start on if there is one."""

    def __init__(self, saying, start=None):
        Sentence.__init__(self, saying, start)

    def region(self):
        """The Region of the fifths at which it is true."""
        return region_by(self, paper(self))


class Each(Sentence):
    """A saying holds for each number, from start on if there is one."""

    def __init__(self, saying, start=None):
        Sentence.__init__(self, saying, start)

    def region(self):
        """The Region of the fifths at which it is true."""
        return region_by(self, paper(self))


class Verdict:
    """The base of Holds and Fails: whether a sentence is true on all of a region."""

    def __bool__(self):
        return isinstance(self, Holds)

    def __eq__(self, other):
        if not isinstance(other, Verdict):
            return False
        return _fields_of(self) == _fields_of(other)


class Holds(Verdict):
    """It is."""


class Fails(Verdict):
    """A paper: it is not, but false at a fraction, where the saying fails for n, or only where there is none."""

    def __init__(self, fifth, n, piece):
        self.fifth = fifth
        self.n = n
        self.piece = piece


def judge(sentence, where=None):
    """The Verdict on a sentence in a Region, or on all fifths."""
    if not isinstance(sentence, Sentence):
        raise BadSaying("sentence")
    if where is not None and not isinstance(where, Region):
        raise BadRegion(where)
    around = Region.every() if where is None else where
    return verdict_on(sentence, around - sentence.region())


def paper(sentence):
    """The pairs (piece, order) of the pieces that settle the saying and the order of its marks on them."""
    if not isinstance(sentence, Sentence):
        raise BadSaying("sentence")
    marks = sentence.saying.marks
    return tuple([(piece, Ring(piece, *marks).order) for piece in settled(sentence.saying)])


def region_by(sentence, rows):
    """The Region of a sentence, put together of what it is on the pieces of a paper and at the ends between them."""
    nodes, rest = [], list(rows)[::-1]
    waiting = [WHOLE]
    while waiting:
        ends = waiting.pop()
        piece, order = rest[-1]
        if piece == piece_of(ends):
            nodes.append(_truths_on(sentence, piece, order))
            rest.pop()
        else:
            nodes.append(_is_true_at(sentence, middle_of(ends)))
            left, right = half_ends(ends)
            waiting.append(right)
            waiting.append(left)
    return Region(tree_of(nodes))


def verdict_on(sentence, missed):
    """The Verdict on a sentence that is false in this Region alone of all where it is asked for."""
    if not missed:
        return Holds()
    fifth = missed.simplest()
    if fifth is None:
        bare = [piece for piece, truths in missed.parts() if truths[-1]]
        return Fails(None, None, bare[0])
    if isinstance(sentence, Some):
        return Fails(fifth, None, None)
    start = 0 if sentence.start is None else sentence.start
    return Fails(fifth, counter_of(sentence.saying, fifth, False).least(0, start), None)


def _given_to(sentence):
    """The tuple of what a sentence is made of."""
    return sentence.saying, sentence.start


def _fields_of(verdict):
    """The tuple of the attributes of a verdict."""
    return () if isinstance(verdict, Holds) else (verdict.fifth, verdict.n, verdict.piece)


def _is_true_at(sentence, fifth):
    """Whether a sentence is true at a fraction."""
    many = count(sentence.saying, fifth)
    return many > 0 if isinstance(sentence, Some) else many == fifth.bottom


def _truths_on(sentence, piece, order):
    """The truths of a sentence for the kinds in a piece that settles its saying; its marks stand in this order."""
    # An Each is false just where its saying fails for some number.
    wanted = isinstance(sentence, Some)
    at_marks, on_arcs = truths_by(sentence.saying, piece, order)
    hits = [truth == wanted for truth in at_marks]
    spans = [truth == wanted for truth in on_arcs]
    part = part_by(piece, order, hits, spans)
    found = [part.count(u, v) > 0 for u, v in [(1, 1), (2, 1), (1, 2), (2, 3)]]
    late = [hit for mark, hit in zip(order, hits) if sentence.start is None or mark >= sentence.start]
    found.append(any(spans) or any(late))
    return tuple([truth == wanted for truth in found])
