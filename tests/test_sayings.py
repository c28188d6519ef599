import itertools
import unittest

from anyfifth.errors import BadFifth, BadNumber, BadSaying, BadTerm, Meets, TooMany
from anyfifth.pieces import Piece
from anyfifth.ratios import Ratio
from anyfifth.rings import Ring
from anyfifth.sayings import (
    All, Any, At, Below, Between, Comparing, Even, Higher, Joined, Levelled, Not, Paired, Saying)
from anyfifth.terms import Height, Moving, Note, Term
from anyfifth.tones import Tone
from tests import said
from tests.said import comparisons, holds, marks_of, some_sayings
from tests.support import (
    all_pieces, any_values, check_examples, check_first_raises, check_quick, check_raises, check_same, fifths_to)

EXAMPLES = """
>>> from anyfifth.sayings import All, Any, At, Below, Between, Even, Higher, Not, Saying
>>> inside = Between(Note(0), Moving(0), Note(1))
>>> two = inside & ~Between(Note(0), Moving(0), Note(2))
>>> [two.marks, two.span, two.deep, two(2, Ratio(3, 5)), two(1, Ratio(3, 5)), ~~two == two]
[(0, 1, 2), 2, 3, True, False, True]
>>> two.truths(ring)
((False, True, False), (False, True, False))
>>> wraps = Below(Moving(1), Moving(0))
>>> [wraps.marks, [wraps(n, Ratio(2, 5)) for n in range(5)], wraps.truths(Ring(Piece.whole(), -1))]
[(-1, 0), [False, False, True, False, True], ((False, True), (False, True))]
>>> same = Even(Height(Tone(0), Note(0)), Height(Tone(0), Moving(0)))
>>> [same.marks, same(0, Ratio(2, 5)), same(1, Ratio(2, 5)), same.truths(Ring(Piece.whole()))]
[(0,), True, False, ((True,), (False,))]
>>> At(Moving(-12), Note(12)) & Higher(Height(Tone(0, 1), Moving(12)), Height(Tone(0), Note(-12)))
raises TooMany('span', 48)
"""

LONG = 10 ** 39 + 7
FAR_FIFTHS = [Ratio(LONG, 2 * LONG + 1), Ratio(1, LONG), Ratio(LONG - 1, LONG), Ratio(10 ** 39, 3 * 10 ** 39 + 1)]
FAR = Piece(Ratio(LONG - 1, LONG), 1)
ZERO = Height(Tone(0), Note(0))
PLAIN = At(Note(0), Note(0))


def inner(count):
    """So many comparisons with a span of 0, in one All where there are several."""
    return All(*[PLAIN] * count)


def deep(many):
    """A saying so many deep."""
    saying = PLAIN
    for _ in range(many - 1):
        saying = Not(saying)
    return saying


class ComparingTest(unittest.TestCase):
    def test_examples(self):
        names = {}
        exec("from anyfifth.ratios import Ratio\nfrom anyfifth.pieces import Piece\nfrom anyfifth.rings import Ring\n"
             "from anyfifth.tones import Tone\nfrom anyfifth.terms import Height, Moving, Note\n"
             "ring = Ring(Piece(Ratio(1, 2), 1), 1, 2)", names)
        check_examples(self, EXAMPLES, names)

    def test_each_comparison_against_keys(self):
        fifths = fifths_to(8)
        for saying in comparisons():
            for fifth in fifths:
                p, q = fifth.top, fifth.bottom
                found = [saying(n, fifth) for n in range(-2, q + 2)]
                check_same(self, found, [holds(saying, n, p, q) for n in range(-2, q + 2)])

    def test_far_numbers_and_fractions(self):
        numbers = [0, 1, -1, LONG, -LONG, 10 ** 40 - 1]
        for saying in comparisons()[::3] + some_sayings()[::5]:
            for fifth, n in itertools.product(FAR_FIFTHS + [Ratio(7, 12)], numbers):
                check_same(self, saying(n, fifth), holds(saying, n, fifth.top, fifth.bottom))

    def test_what_is_made_of_sayings_against_keys(self):
        fifths = [fifth for fifth in fifths_to(13) if fifth.bottom > 4]
        for saying in some_sayings():
            for fifth in fifths[::3]:
                p, q = fifth.top, fifth.bottom
                check_same(self, [saying(n, fifth) for n in range(q)], [holds(saying, n, p, q) for n in range(q)])

    def test_between_never_holds_with_two_at_one_position(self):
        for numbers in itertools.product((0, 2, 5), repeat=3):
            saying = Between(*map(Moving, numbers))
            for fifth in fifths_to(6):
                keys = [number * fifth.top % fifth.bottom for number in numbers]
                if len(set(keys)) < 3:
                    check_same(self, [saying(n, fifth) for n in range(3)], [False] * 3)

    def test_all_and_any_of_none(self):
        for n, fifth in itertools.product((0, -5, LONG), fifths_to(4) + FAR_FIFTHS):
            check_same(self, [All()(n, fifth), Any()(n=n, fifth=fifth)], [True, False])

    def test_asking_refuses_in_order(self):
        for saying in (PLAIN, All(), Not(PLAIN), Even(ZERO, ZERO)):
            for n, fifth in itertools.product(any_values(), any_values()):
                if type(n) is not int:
                    check_raises(self, BadNumber(n), saying, n, fifth)
                elif not Ratio.is_fifth(fifth):
                    check_raises(self, BadFifth(fifth), saying, n, fifth)


class MakingTest(unittest.TestCase):
    def test_arguments_are_kept(self):
        a, b, c = Note(0), Moving(1), Note(2)
        g, h = ZERO, Height(Tone(1), Moving(0))
        for made in (At, Below):
            for saying in (made(a, b), made(other=b, one=a)):
                self.assertTrue(saying.one is a and saying.other is b)
        for made in (Higher, Even):
            for saying in (made(g, h), made(other=h, one=g)):
                self.assertTrue(saying.one is g and saying.other is h)
        for saying in (Between(a, b, c), Between(last=c, first=a, inside=b)):
            self.assertTrue(saying.first is a and saying.inside is b and saying.last is c)
        one, other = At(a, b), Not(At(a, c))
        for made in (All, Any):
            check_same(self, [made(one, other).sayings, made().sayings], [(one, other), ()])
        self.assertTrue(Not(one).saying is one and Not(saying=other).saying is other)

    def test_bases(self):
        for made, bases in ((At, (Comparing, Paired)), (Below, (Comparing, Paired)), (Between, (Comparing,)),
                            (Higher, (Levelled, Paired)), (Even, (Levelled, Paired)), (All, (Joined,)),
                            (Any, (Joined,)), (Not, (Joined,))):
            self.assertEqual(made.__bases__, bases)
            self.assertTrue(issubclass(made, Saying))
        for one in (Comparing, Levelled, Joined):
            self.assertTrue(issubclass(one, Saying))
        check_same(self, [Saying.MOST, Saying.MOST_DEEP, Saying.MOST_SPAN], [12, 6, 48])

    def test_wrong_arguments(self):
        note = Note(0)
        for value in any_values():
            if not isinstance(value, Term):
                for made in (At, Below):
                    check_raises(self, BadSaying("one"), made, value, value)
                    check_raises(self, BadSaying("other"), made, note, value)
                check_raises(self, BadSaying("first"), Between, value, value, value)
                check_raises(self, BadSaying("inside"), Between, note, value, value)
                check_raises(self, BadSaying("last"), Between, note, note, value)
            if not isinstance(value, Height):
                for made in (Higher, Even):
                    check_raises(self, BadSaying("one"), made, value, value)
                    check_raises(self, BadSaying("other"), made, ZERO, value)
            if not isinstance(value, Saying):
                check_raises(self, BadSaying("saying"), Not, value)
                for made in (All, Any):
                    check_raises(self, BadSaying(0), made, value, PLAIN)
                    check_raises(self, BadSaying(2), made, PLAIN, PLAIN, value, value)
                    check_raises(self, BadSaying(13), made, *[PLAIN] * 13, value)

    def test_12_and_13_sayings_and_comparisons(self):
        twelve, many = TooMany("comparisons", 12), TooMany("sayings", 12)
        for made in (All, Any):
            check_same(self, len(list(made(*[PLAIN] * 12).parts())), 12)
            check_same(self, len(made(*[All()] * 12).sayings), 12)
            check_raises(self, many, made, *[PLAIN] * 13)
            check_raises(self, many, made, *[All()] * 13)
            check_raises(self, many, made, *[inner(2)] * 13)
            check_raises(self, many, made, *[deep(6)] * 13)
            check_same(self, len(list(made(inner(6), inner(6)).parts())), 12)
            check_raises(self, twelve, made, inner(6), inner(7))
            check_raises(self, twelve, made, inner(12), PLAIN)
            check_raises(self, twelve, made, deep(6), inner(12))
        check_raises(self, twelve, lambda: inner(12) & PLAIN)
        check_raises(self, twelve, lambda: PLAIN | inner(12))
        check_same(self, len(list((~inner(12)).parts())), 12)

    def test_6_and_7_deep(self):
        refused = TooMany("deep", 6)
        check_same(self, [deep(many).deep for many in range(1, 7)], [1, 2, 3, 4, 5, 6])
        check_same(self, [All().deep, Any().deep, Not(All()).deep, All(All()).deep, All(PLAIN, deep(3)).deep,
                          inner(3).deep], [1, 1, 2, 2, 4, 2])
        for saying in comparisons():
            check_same(self, [saying.deep, Not(saying).deep, list(saying.parts())], [1, 2, [saying]])
        check_raises(self, refused, Not, deep(6))
        check_raises(self, refused, All, PLAIN, deep(6))
        check_raises(self, refused, Any, deep(6), All())
        check_raises(self, refused, lambda: deep(6) & PLAIN)
        check_raises(self, refused, lambda: ~All(deep(5)))
        check_same(self, (~deep(6)).deep, 5)
        # Deep comes ahead of a span that is too great.
        low, high = At(Moving(12), Note(-12)), At(Moving(-12), Note(12))
        five = Not(Not(Not(Not(low))))
        check_raises(self, TooMany("span", 48), All, five, high, self.mark(25))
        check_raises(self, refused, All, Not(five), high, self.mark(25))

    def mark(self, number):
        """A saying with the marks 0 and this number, from 25 on."""
        return Higher(Height(Tone(0, number - 20), Note(12)), Height(Tone(0, -20), Note(12)))

    def test_span_of_48_and_49(self):
        refused = TooMany("span", 48)
        low, high = At(Moving(12), Note(-12)), At(Moving(-12), Note(12))
        check_same(self, [low.marks, high.marks, All(low, high).span], [(-24, 0), (0, 24), 48])
        check_same(self, self.mark(25).marks, (0, 12, 25))
        check_raises(self, refused, All, low, self.mark(25))
        check_raises(self, refused, lambda: low | self.mark(25))
        for made in (Higher, Even):
            one = Height(Tone(0, 20), Note(10))
            check_same(self, made(one, Height(Tone(0, -20), Note(2))).marks, (0, 2, 10, 48))
            check_raises(self, refused, made, one, Height(Tone(0, -20), Note(1)))
            check_same(self, made(one, Height(Tone(0, -18), Note(0))).span, 48)
            check_raises(self, refused, made, one, Height(Tone(0, -19), Note(0)))
            check_raises(self, refused, made, Height(Tone(0, 20), Moving(0)), Height(Tone(0, -20), Moving(-9)))
            check_raises(self, refused, made, Height(Tone(0, -20), Moving(0)), Height(Tone(0, 20), Note(9)))

    def test_parts_from_the_left(self):
        a, b, c = At(Note(0), Note(1)), Below(Note(0), Note(2)), Even(ZERO, ZERO)
        check_same(self, list(a.parts()), [a])
        saying = Any(All(Not(c), a), Not(Any(b, a)), All(), c)
        check_same(self, [str(type(one)) for one in saying.parts()], [str(type(one)) for one in (c, a, b, a, c)])
        check_same(self, list(saying.parts()), [c, a, b, a, c])
        check_same(self, [list(All().parts()), list(Not(Any()).parts())], [[], []])

    def test_marks_by_the_table(self):
        for saying in comparisons() + some_sayings():
            marks = tuple(sorted(marks_of(saying) | {0}))
            check_same(self, [saying.marks, saying.span], [marks, marks[-1] - marks[0]])

    def test_marks_of_each_row_of_the_table(self):
        n, m = Note, Moving
        rows = [
            (At(n(5), n(-3)), (-3, 0, 5)), (At(m(5), m(-3)), (-5, 0, 3)), (At(m(5), n(-3)), (-8, 0)),
            (At(n(-3), m(5)), (-8, 0)), (Below(n(5), n(-3)), (-3, 0, 5)), (Below(m(5), m(-3)), (-5, 0, 3)),
            (Below(m(5), n(-3)), (-8, -5, -3, 0)), (Below(n(-3), m(5)), (-8, -5, -3, 0)),
            (Between(n(1), n(5), n(-3)), (-3, 0, 1, 5)), (Between(m(1), m(5), m(-3)), (-3, 0, 1, 5)),
            (Between(n(1), m(5), n(-3)), (-8, -4, 0)), (Between(m(1), n(5), m(-3)), (0, 4, 8)),
            (Between(m(1), m(5), n(7)), (0, 2, 6)),
        ]
        for made in (Higher, Even):
            def lifted(one, other):
                return made(Height(Tone(3, 9), one), Height(Tone(-1, 2), other))
            rows.extend([(lifted(n(5), n(-3)), (-3, 0, 5, 15)), (lifted(m(5), m(-3)), (-5, 0, 3, 15)),
                         (lifted(m(5), n(-3)), (-15, -10, -5, -3, 0)), (lifted(n(5), m(-3)), (0, 3, 5, 12, 15))])
        for saying, marks in rows:
            check_same(self, saying.marks, marks)


class OperatorsTest(unittest.TestCase):
    def test_and_or_not(self):
        one, other = At(Note(0), Moving(1)), Not(Below(Note(0), Moving(2)))
        check_same(self, [one & other == All(one, other), one | other == Any(one, other), ~one == Not(one)], [True] * 3)
        check_same(self, [type(one & other), type(one | other), type(~one), type(~other)], [All, Any, Not, Below])
        self.assertIs(~other, other.saying)
        self.assertTrue((one & other).sayings[0] is one and (one & other).sayings[1] is other)
        for saying in some_sayings():
            check_same(self, ~~saying == saying, True)

    def test_other_values_are_refused(self):
        for saying in (PLAIN, All(), Not(PLAIN), inner(12), deep(6)):
            for value in any_values():
                if not isinstance(value, Saying):
                    check_raises(self, BadSaying("other"), lambda: saying & value)
                    check_raises(self, BadSaying("other"), lambda: saying | value)

    def test_in_place_the_name_is_bound_and_the_saying_stays(self):
        one, other = At(Note(0), Moving(1)), Below(Note(0), Moving(2))
        kept = name = one
        name &= other
        check_same(self, name == All(one, other), True)
        name |= kept
        check_same(self, [name == Any(All(one, other), one), kept == At(Note(0), Moving(1))], [True, True])
        with self.assertRaises(BadSaying):
            name &= True
        check_same(self, name == Any(All(one, other), one), True)

    def test_equal_by_class_and_arguments_in_order(self):
        sayings = comparisons()[::4] + some_sayings()[80:]
        words = [self.word(one) for one in sayings]
        for (one, word), (other, told) in itertools.product(zip(sayings, words), zip(sayings, words)):
            check_same(self, [one == other, one != other], [word == told, word != told])
        a, b = PLAIN, At(Note(1), Note(0))
        check_same(self, [All(a, b) == All(b, a), All(a) == Any(a), All() == Any(), All(a) == a, a == Below(Note(0), Note(0)),
                          All(a, a) == All(a), Higher(ZERO, ZERO) == Even(ZERO, ZERO), b == At(Note(0), Note(1)),
                          At(Note(0), Note(0)) == At(Note(0), Moving(0))], [False] * 9)
        for value in any_values():
            if not isinstance(value, Saying):
                check_same(self, [PLAIN == value, value == PLAIN, All() == value], [False] * 3)

    def word(self, saying):
        """A text that tells a saying by its class and its arguments."""
        name = type(saying).__name__
        if isinstance(saying, (All, Any)):
            return [name, [self.word(one) for one in saying.sayings]]
        if isinstance(saying, Not):
            return [name, self.word(saying.saying)]
        if isinstance(saying, Between):
            return [name, [self.word_of(one) for one in (saying.first, saying.inside, saying.last)]]
        return [name, self.word_of(saying.one), self.word_of(saying.other)]

    def word_of(self, one):
        if isinstance(one, Height):
            return [one.tone.octaves, one.tone.fifths, self.word_of(one.term)]
        return [one.is_moving, one.number]


class ChangedTest(unittest.TestCase):
    def test_moved(self):
        for saying, more in itertools.product(some_sayings()[::2], (0, 1, -4, 7)):
            moved = saying.moved(more)
            check_same(self, moved.marks, tuple(sorted(marks_of(moved) | {0})))
            check_same(self, moved.moved(number=-more) == saying, True)
            for old, new in zip(saying.parts(), moved.parts()):
                self.check_moved(old, new, more)

    def check_moved(self, old, new, more):
        self.assertIs(type(old), type(new))
        for name in ("one", "other", "first", "inside", "last"):
            if hasattr(old, name):
                check_same(self, getattr(old, name).moved(more) == getattr(new, name), True)

    def test_moved_beyond_the_bounds(self):
        saying = All(At(Note(0), Moving(5)), Not(Even(ZERO, Height(Tone(1), Moving(-3)))))
        check_same(self, [type(saying.moved(7)), type(saying.moved(-9))], [All, All])
        for value in any_values() + [8, -10, LONG]:
            if type(value) is not int or not -9 <= value <= 7:
                check_raises(self, BadTerm("number"), saying.moved, value)
        check_same(self, [All().moved(3) == All(), Not(Any()).moved(99) == Not(Any())], [True, True])

    def test_moved_into_too_great_a_span(self):
        great = Higher(Height(Tone(0, 20), Note(0)), Height(Tone(0, -20), Note(0)))
        check_same(self, [great.marks, great.moved(-8).marks], [(0, 40), (-8, 0, 40)])
        check_raises(self, TooMany("span", 48), great.moved, -9)
        # A term comes ahead of the span, wherever it stands.
        check_raises(self, BadTerm("number"), All(great, At(Note(-4), Note(0))).moved, -9)
        check_raises(self, BadTerm("number"), All(great, Not(Even(ZERO, Height(Tone(0), Note(-4))))).moved, -9)
        check_raises(self, TooMany("span", 48), All(At(Note(-3), Note(0)), great).moved, -9)

    def test_mirrored(self):
        fifths = fifths_to(9) + FAR_FIFTHS
        for saying in some_sayings():
            mirrored = saying.mirrored()
            check_same(self, [mirrored.mirrored() == saying, mirrored.marks], [True, tuple(-one for one in saying.marks[::-1])])
            for fifth in fifths[::4]:
                for n in (0, 1, 4, -3, LONG):
                    check_same(self, mirrored(-n, 1 - fifth), saying(n, fifth))

    def test_mirrored_beyond_the_bounds(self):
        wide = Even(Height(Tone(11, 10), Note(0)), ZERO)
        check_raises(self, BadTerm("tone"), wide.mirrored)
        check_raises(self, BadTerm("tone"), Not(All(PLAIN, wide)).mirrored)

    def test_towers_without_comparisons_are_quick(self):
        tower, other = All(), Any()
        for made in (Any, All, Any, All, Any):
            tower, other = made(*[tower] * 12), made(*[other] * 12)
        check_same(self, [tower.deep, tower.marks, other.span, list(tower.parts())], [6, (0,), 0, []])
        check_quick(self, lambda: [tower(3, fifth) for fifth in FAR_FIFTHS])
        check_same(self, [tower(5, Ratio(1, 2)), other(5, Ratio(1, 2)), tower == other], [True, False, False])
        moved = check_quick(self, lambda: [tower.moved(3), tower.mirrored(), other.moved(-40)])
        check_same(self, [moved[0] == tower, moved[1] == tower, moved[2] == other], [True] * 3)
        check_same(self, tower.truths(Ring(FAR)), ((True,), (True,)))

    def test_nothing_changes_a_saying(self):
        saying = Not(At(Note(0), Moving(1)))
        before = (saying.marks, saying.span, saying.deep, list(saying.parts()))
        saying.moved(3), saying.mirrored(), ~saying, saying & PLAIN, saying(3, Ratio(1, 2))
        check_same(self, (saying.marks, saying.span, saying.deep, list(saying.parts())), before)

    def test_each_method_stands_in_the_class(self):
        for name in ("marks", "span", "deep", "parts", "__call__", "__and__", "__or__", "__invert__", "__eq__", "moved",
                     "mirrored", "truths"):
            self.assertIn(name, vars(Saying))
        for one in (At, Below, Between, Higher, Even, All, Any, Not):
            self.assertIn("__init__", vars(one))
        for one in (Saying, Comparing, Levelled, Joined, Paired, At, Below, Between, Higher, Even, All, Any, Not):
            self.assertEqual(one.__module__, "anyfifth.sayings")


class TruthsTest(unittest.TestCase):
    def check_truths(self, saying, ring):
        """The truths are those at all keys of some keyboards of the piece."""
        at_marks, on_arcs = saying.truths(ring)
        check_same(self, [type(at_marks), type(on_arcs), len(at_marks), len(on_arcs)], [tuple, tuple] + [len(ring)] * 2)
        for u, v in ((1, 1), (3, 2), (2, 5), (1, 6)):
            fifth = ring.piece.ratio(u, v)
            p, q = fifth.top, fifth.bottom
            keys = list(ring(fifth)) + [q]
            number_at = {n * p % q: n for n in range(q)}
            for at in range(len(ring)):
                check_same(self, at_marks[at], holds(saying, number_at[keys[at]], p, q))
                inside = {holds(saying, number_at[key], p, q) for key in range(keys[at] + 1, keys[at + 1])}
                self.assertLessEqual(inside, {on_arcs[at]})

    def test_against_keys(self):
        made, pieces = 0, all_pieces(4) + [Piece(Ratio(5, 12), Ratio(3, 7)), Piece(Ratio(4, 7), Ratio(7, 12))]
        for saying in some_sayings()[::2] + comparisons()[1::5]:
            for piece in pieces:
                try:
                    ring = Ring(piece, *saying.marks)
                except Meets:
                    continue
                made += 1
                self.check_truths(saying, ring)
        self.assertGreater(made, 300)

    def test_great_sayings_and_far_pieces(self):
        saying = said.widest()
        check_same(self, [len(list(saying.parts())), saying.span], [12, 48])
        truths = check_quick(self, saying.truths, Ring(FAR, *saying.marks))
        ring = Ring(FAR, *saying.marks)
        fifth = FAR.ratio(2, 3)
        for mark, truth in zip(ring.order, truths[0]):
            check_same(self, truth, holds(saying, mark, fifth.top, fifth.bottom))
        check_same(self, saying.truths(ring=ring), truths)

    def test_other_values_are_refused(self):
        saying = Between(Note(0), Moving(0), Note(1)) & ~Between(Note(0), Moving(0), Note(2))
        piece = Piece(Ratio(1, 2), 1)
        for value in any_values() + [Ring(piece), Ring(piece, 1), Ring(FAR, 1, 2, 3), (0, 2, 1), Ring(FAR, -1, -2)]:
            check_raises(self, BadSaying("ring"), saying.truths, value)
        check_raises(self, BadSaying("ring"), PLAIN.truths, Ring(piece, 1))
        check_same(self, PLAIN.truths(Ring(piece)), ((True,), (True,)))

    def test_parts_are_made_at_once(self):
        with self.assertRaises(TypeError):
            PLAIN.parts(1)
        with self.assertRaises(StopIteration):
            next(All().parts())
        check_first_raises(self, BadNumber(5), Ring(FAR).walk, 5)


if __name__ == "__main__":
    unittest.main()
