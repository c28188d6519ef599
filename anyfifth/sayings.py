"""The sayings: what may hold for note n and the notes near it."""

from anyfifth.errors import BadFifth, BadNumber, BadSaying, TooMany
from anyfifth.marks import marks_of_at, marks_of_below, marks_of_between, marks_of_heights
from anyfifth.plain import ascending, is_int
from anyfifth.ratios import Ratio
from anyfifth.rings import Ring
from anyfifth.terms import Height, Term


class Saying:
    """The base of all sayings, not made itself. A saying never changes.

    Each class below has three methods more: given() is the tuple of its arguments, made(given) a saying of the
    same class with other ones, and held(numbers, top, bottom) tells for each n among numbers whether it holds
    at the fraction top / bottom.
    """

    MOST = 12
    MOST_DEEP = 6
    MOST_SPAN = 48
    # Tells the classes from one another.
    WORD = ""

    def __init__(self, deep, marks):
        if deep > Saying.MOST_DEEP:
            raise TooMany("deep", Saying.MOST_DEEP)
        row = ascending([0, *marks])
        if row[-1] - row[0] > Saying.MOST_SPAN:
            raise TooMany("span", Saying.MOST_SPAN)
        self._deep = deep
        self._marks = row

    @property
    def marks(self):
        """The ascending tuple of its marks, 0 among them."""
        return self._marks

    @property
    def span(self):
        """Its greatest mark less its least one."""
        return self._marks[-1] - self._marks[0]

    @property
    def deep(self):
        """How deep it is: 1 for a comparison, one more for what is made of sayings."""
        return self._deep

    def parts(self):
        """Yield the comparisons in it, from the left."""
        for part in _comparisons_in(self):
            yield part

    def truths(self, ring):
        """Its truths at the marks and its truths on the arcs of the Ring of just its marks."""
        if not isinstance(ring, Ring) or ascending(ring.order) != self._marks:
            raise BadSaying("ring")
        return truths_by(self, ring.piece, ring.order)

    def moved(self, number):
        """The saying with each term moved."""
        comparisons = _comparisons_in(self)
        # A term that cannot be moved comes ahead of a span that is too great.
        for part in comparisons:
            for one in part.given():
                one.moved(number)
        return self.made([one.moved(number) for one in self.given()]) if comparisons != [] else self

    def mirrored(self):
        """The saying that holds for -n at 1 - f exactly if this one holds for n at f."""
        return self.made([one.mirrored() for one in self.given()]) if _comparisons_in(self) != [] else self

    def __call__(self, n, fifth):
        """Whether it holds for n at a fraction."""
        if not is_int(n):
            raise BadNumber(n)
        if not Ratio.is_fifth(fifth):
            raise BadFifth(fifth)
        return self.held([n], fifth.top, fifth.bottom)[0]

    def __and__(self, other):
        if not isinstance(other, Saying):
            raise BadSaying("other")
        return All(self, other)

    def __or__(self, other):
        if not isinstance(other, Saying):
            raise BadSaying("other")
        return Any(self, other)

    def __invert__(self):
        return Not(self)

    def __eq__(self, other):
        if not isinstance(other, Saying):
            return False
        return self.WORD == other.WORD and self.given() == other.given()


class Comparing(Saying):
    """The base of the comparisons of positions."""

    def __init__(self, marks):
        Saying.__init__(self, 1, marks)


class Levelled(Saying):
    """The base of the comparisons of pitches."""

    def __init__(self, marks):
        Saying.__init__(self, 1, marks)


class Joined(Saying):
    """The base of what is made of sayings. Each class below has joins(truths): whether it holds by theirs."""

    def __init__(self, sayings):
        self._comparisons = [part for saying in sayings for part in _comparisons_in(saying)]
        if len(self._comparisons) > Saying.MOST:
            raise TooMany("comparisons", Saying.MOST)
        deep = 0
        for saying in sayings:
            if saying.deep > deep:
                deep = saying.deep
        Saying.__init__(self, 1 + deep, [mark for saying in sayings for mark in saying.marks])
        # Without comparisons it always holds or never. It may be made of so many
        # sayings that they are asked only once.
        self._fixed = None
        if self._comparisons == []:
            self._fixed = self.joins([saying.held([0], 0, 1)[0] for saying in sayings])

    def held(self, numbers, top, bottom):
        """Whether it holds, for each of these numbers."""
        if self._fixed is not None:
            return [self._fixed] * len(numbers)
        rows = [saying.held(numbers, top, bottom) for saying in self.given()]
        return [self.joins(truths) for truths in zip(*rows)]


class Paired:
    """The base of the comparisons that have the arguments one and other."""

    def __init__(self, one, other):
        self.one = one
        self.other = other

    def given(self):
        """The tuple of its arguments."""
        return self.one, self.other


class At(Comparing, Paired):
    """The positions of two terms are equal."""

    WORD = "at"

    def __init__(self, one, other):
        _check_terms([("one", one), ("other", other)])
        Paired.__init__(self, one, other)
        Comparing.__init__(self, marks_of_at(one, other))

    def made(self, given):
        """An At of two other terms."""
        return At(*given)

    def held(self, numbers, top, bottom):
        """Whether it holds, for each of these numbers."""
        (m, b), (k, c) = _line_of(self.one), _line_of(self.other)
        return [((m - k) * n + b - c) * top % bottom == 0 for n in numbers]


class Below(Comparing, Paired):
    """The position of a term is less than that of another one."""

    WORD = "below"

    def __init__(self, one, other):
        _check_terms([("one", one), ("other", other)])
        Paired.__init__(self, one, other)
        Comparing.__init__(self, marks_of_below(one, other))

    def made(self, given):
        """A Below of two other terms."""
        return Below(*given)

    def held(self, numbers, top, bottom):
        """Whether it holds, for each of these numbers."""
        (m, b), (k, c) = _line_of(self.one), _line_of(self.other)
        return [(m * n + b) * top % bottom < (k * n + c) * top % bottom for n in numbers]


class Between(Comparing):
    """Going up from a term one comes to another one strictly ahead of a third."""

    WORD = "between"

    def __init__(self, first, inside, last):
        _check_terms([("first", first), ("inside", inside), ("last", last)])
        self.first = first
        self.inside = inside
        self.last = last
        Comparing.__init__(self, marks_of_between([first, inside, last]))

    def given(self):
        """The tuple of its arguments."""
        return self.first, self.inside, self.last

    def made(self, given):
        """A Between of three other terms."""
        return Between(*given)

    def held(self, numbers, top, bottom):
        """Whether it holds, for each of these numbers."""
        (m, b), (k, c), (j, d) = _line_of(self.first), _line_of(self.inside), _line_of(self.last)
        return [0 < ((k - m) * n + c - b) * top % bottom < ((j - m) * n + d - b) * top % bottom for n in numbers]


class Higher(Levelled, Paired):
    """The pitch of a height is above that of another one."""

    WORD = "higher"

    def __init__(self, one, other):
        _check_heights([("one", one), ("other", other)])
        Paired.__init__(self, one, other)
        Levelled.__init__(self, marks_of_heights(one, other))

    def made(self, given):
        """A Higher of two other heights."""
        return Higher(*given)

    def held(self, numbers, top, bottom):
        """Whether it holds, for each of these numbers."""
        return [lead > 0 for lead in _leads(self.one, self.other, numbers, top, bottom)]


class Even(Levelled, Paired):
    """The pitches of two heights are equal."""

    WORD = "even"

    def __init__(self, one, other):
        _check_heights([("one", one), ("other", other)])
        Paired.__init__(self, one, other)
        Levelled.__init__(self, marks_of_heights(one, other))

    def made(self, given):
        """An Even of two other heights."""
        return Even(*given)

    def held(self, numbers, top, bottom):
        """Whether it holds, for each of these numbers."""
        return [lead == 0 for lead in _leads(self.one, self.other, numbers, top, bottom)]


class All(Joined):
    """Each one of some sayings holds."""

    WORD = "all"

    def __init__(self, *sayings):
        _check_sayings(sayings)
        self.sayings = sayings
        Joined.__init__(self, sayings)

    def given(self):
        """The tuple of its arguments."""
        return self.sayings

    def made(self, given):
        """An All of other sayings."""
        return All(*given)

    def joins(self, truths):
        """Whether it holds by what its sayings do."""
        return all(truths)


class Any(Joined):
    """One of some sayings holds, or more of them."""

    WORD = "any"

    def __init__(self, *sayings):
        _check_sayings(sayings)
        self.sayings = sayings
        Joined.__init__(self, sayings)

    def given(self):
        """The tuple of its arguments."""
        return self.sayings

    def made(self, given):
        """An Any of other sayings."""
        return Any(*given)

    def joins(self, truths):
        """Whether it holds by what its sayings do."""
        return any(truths)


class Not(Joined):
    """A saying does not hold."""

    WORD = "not"

    def __init__(self, saying):
        if not isinstance(saying, Saying):
            raise BadSaying("saying")
        self.saying = saying
        Joined.__init__(self, (saying,))

    def given(self):
        """The tuple of its argument."""
        return (self.saying,)

    def made(self, given):
        """A Not of another saying."""
        return Not(*given)

    def joins(self, truths):
        """Whether it holds by what its saying does."""
        return not truths[0]

    def __invert__(self):
        return self.saying


def truths_by(saying, piece, order):
    """The truths of a saying at its marks, which stand in this order on a piece, and on the arcs between them."""
    # At the spot (2, 3) each arc has a key strictly inside. The middle of the
    # piece is the neighbour below this fraction, so as many notes as it has
    # keys lead up by just one key.
    fifth, up = piece.ratio(2, 3), piece.reach
    truths = saying.held([*order] + [mark + up for mark in order], fifth.top, fifth.bottom)
    return tuple(truths[:len(order)]), tuple(truths[len(order):])


def _check_terms(rows):
    """Refuse the first value that is no Term, by its name."""
    for name, value in rows:
        if not isinstance(value, Term):
            raise BadSaying(name)


def _check_heights(rows):
    """Refuse the first value that is no Height, by its name."""
    for name, value in rows:
        if not isinstance(value, Height):
            raise BadSaying(name)


def _check_sayings(sayings):
    """Refuse the first value that is no Saying, by its index, and too many of them."""
    for at, value in enumerate(sayings):
        if not isinstance(value, Saying):
            raise BadSaying(at)
    if len(sayings) > Saying.MOST:
        raise TooMany("sayings", Saying.MOST)


def _comparisons_in(saying):
    """The list of the comparisons in a saying, from the left."""
    return list(saying._comparisons) if isinstance(saying, Joined) else [saying]


def _line_of(term):
    """The pair (m, b) for which the note of a term is m * n + b."""
    return (1 if term.is_moving else 0), term.number


def _leads(one, other, numbers, top, bottom):
    """For each n among numbers by how many keys the first height is above the second one."""
    tone = one.tone - other.tone
    lead = tone.octaves * bottom + tone.fifths * top
    (m, b), (k, c) = _line_of(one.term), _line_of(other.term)
    return [lead + (m * n + b) * top % bottom - (k * n + c) * top % bottom for n in numbers]
