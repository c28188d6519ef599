import itertools
import unittest
from fractions import Fraction

from anyfifth.errors import BadFifth, BadNumber, BadPiece, Meets
from anyfifth.pieces import Piece
from anyfifth.ratios import Ratio
from anyfifth.rings import Arc, Ring
from anyfifth.tones import Tone
from tests.support import (
    all_pieces, any_values, check_examples, check_first_raises, check_quick, check_raises, check_same, exact,
    fifths_to, key_of)

EXAMPLES = """
>>> from anyfifth.rings import Arc, Ring
>>> piece = Piece(Ratio(1, 2), 1)
>>> ring = Ring(piece, 1, 2)
>>> [ring.order, ring(Ratio(3, 5)), ring.after(1), ring.before(0), ring.place(1), ring.is_between(0, 2, 1), ring.is_between(1, 2, 0), list(ring.walk(2))]
[(0, 2, 1), (0, 1, 3), 0, 1, 2, True, False, [2, 1, 0]]
>>> [(arc.low, arc.high, arc.left, arc.right, str(arc.width), arc.count(2, 1)) for arc in ring.arcs()]
[(0, 2, 0, 1, '-1,2', 0), (2, 1, 1, 0, '1,-1', 1), (1, 0, 1, 0, '1,-1', 1)]
>>> [Ring(Piece.whole()).order, Ring(Piece.whole()).arc(0) == Arc(0, 0, 1, 1, Tone(1)), ring.on(Piece(Ratio(1, 2), Ratio(2, 3))).order]
[(0,), True, (0, 2, 1)]
>>> Ring(piece, 3, 6)
raises Meets(0, 3, Ratio(2, 3))
"""

LONG = 10 ** 39 + 7
FAR = Piece(Ratio(LONG - 1, LONG), 1)
SPOTS = [(1, 1), (2, 1), (1, 2), (3, 2), (5, 7), (30, 1), (1, 30), (LONG, LONG + 1), (LONG, 1)]
SETS = [(), (0,), (1,), (-1,), (1, 2), (7, 2), (-3, 4), (5, -5, 1), (1, 2, 3, 4), (-7, 7, 3), (12, -12), (48, -48, 1),
        (2, 9, 4, 11, 6), (0, 0, 1, 1, 0)]


SEARCHED = sorted(fifths_to(96), key=lambda one: (one.bottom, exact(one)))


def first_meeting(piece, numbers):
    """The pair and the fraction that the document tells, found by a search; None if no two of the numbers meet."""
    row = sorted({0, *numbers})
    for fifth in SEARCHED:
        if fifth in piece:
            for one, other in itertools.combinations(row, 2):
                if (other - one) % fifth.bottom == 0:
                    return one, other, fifth
    return None


def rings():
    """Some rings with their pieces and numbers."""
    for piece in all_pieces(5) + [FAR, Piece(Ratio(5, 12), Ratio(3, 7))]:
        for numbers in SETS:
            try:
                yield Ring(piece, *numbers), piece, sorted({0, *numbers})
            except Meets:
                pass


class RingTest(unittest.TestCase):
    def test_examples(self):
        names = {}
        exec("from anyfifth.ratios import Ratio\nfrom anyfifth.pieces import Piece\n"
             "from anyfifth.tones import Tone", names)
        check_examples(self, EXAMPLES, names)

    def test_order_and_keys(self):
        made = 0
        for ring, piece, numbers in rings():
            made += 1
            check_same(self, [type(ring.order), ring.piece == piece], [tuple, True])
            self.assertEqual([sorted(ring.order), ring.order[0], len(ring)], [numbers, 0, len(numbers)])
            for u, v in SPOTS:
                fifth = piece.ratio(u, v)
                keys = tuple(number * fifth.top % fifth.bottom for number in ring.order)
                check_same(self, ring(fifth), keys)
                self.assertEqual(sorted(set(keys)), list(keys))
        self.assertGreater(made, 100)
        ring = Ring(Piece(Ratio(1, 2), Ratio(3, 5)), 1, 2)
        check_same(self, ring(fifth=Ratio(4, 7)), tuple(key_of(number, Ratio(4, 7)) for number in ring.order))

    def test_a_number_that_is_passed_twice_counts_once(self):
        one, other = Ring(Piece(Ratio(1, 2), 1), 1, 2), Ring(Piece(Ratio(1, 2), 1), 2, 1, 0, 2, 1)
        check_same(self, [one == other, other.order, len(other)], [True, (0, 2, 1), 3])

    def test_meets_against_a_search(self):
        refused = 0
        for piece in all_pieces(5):
            for numbers in SETS + [(48, -48, 47), (6, 3), (9, 5, -4), (10, -10, 20), (24, 36)]:
                found = first_meeting(piece, numbers)
                if found is None:
                    check_same(self, len(Ring(piece, *numbers)), len({0, *numbers}))
                else:
                    refused += 1
                    check_raises(self, Meets(*found), Ring, piece, *numbers)
                    check_raises(self, Meets(*found), Ring, piece, *numbers[::-1], 0)
        self.assertGreater(refused, 100)

    def test_the_simplest_fraction_and_the_least_pair(self):
        whole, piece = Piece.whole(), Piece(Ratio(1, 2), 1)
        check_raises(self, Meets(0, 2, Ratio(1, 2)), Ring, whole, 2, 4)
        check_raises(self, Meets(-2, 0, Ratio(1, 2)), Ring, whole, 2, -2)
        check_raises(self, Meets(-1, 1, Ratio(1, 2)), Ring, whole, 1, -1)
        check_raises(self, Meets(0, 3, Ratio(1, 3)), Ring, whole, 3)
        check_raises(self, Meets(1, 4, Ratio(2, 3)), Ring, piece, 1, 4)
        check_raises(self, Meets(-48, 48, Ratio(95, 96)), Ring, Piece(Ratio(94, 95), 1), -48, 48)
        check_raises(self, Meets(-48, 48, Ratio(1, 96)), Ring, Piece(0, Ratio(1, 95)), -48, 48)
        check_same(self, Ring(Piece(0, Ratio(1, 96)), -48, 48).order, (0, 48, -48))

    def test_refuses_in_order(self):
        for piece in any_values():
            if not isinstance(piece, Piece):
                check_raises(self, BadPiece("piece"), Ring, piece, 99, "x")
        for value in any_values() + [49, -49]:
            if type(value) is not int or not -48 <= value <= 48:
                check_raises(self, BadNumber(value), Ring, Piece.whole(), value)
                check_raises(self, BadNumber(value), Ring, Piece.whole(), 2, value, "x", 77)
        check_same(self, Ring(piece=Piece.whole()).order, (0,))

    def test_in(self):
        for ring, _, numbers in rings():
            for value in any_values() + list(range(-50, 51)):
                check_same(self, value in ring, type(value) is int and value in numbers)

    def test_place_after_before_walk(self):
        for ring, _, numbers in rings():
            order, many = ring.order, len(ring.order)
            for at, number in enumerate(order):
                check_same(self, [ring.place(number), ring.place(number=number)], [at, at])
                check_same(self, ring.after(number), order[(at + 1) % many])
                check_same(self, ring.before(number), order[(at - 1) % many])
                check_same(self, list(ring.walk(number)), list(order[at:] + order[:at]))
        alone = Ring(Piece.whole())
        check_same(self, [alone.after(0), alone.before(number=0), list(alone.walk(number=0))], [0, 0, [0]])

    def test_is_between_against_keys(self):
        for ring, piece, numbers in rings():
            fifth = piece.ratio(3, 2)
            p, q = fifth.top, fifth.bottom
            for first, middle, last in itertools.product(numbers, repeat=3):
                expected = 0 < (middle - first) * p % q < (last - first) * p % q
                check_same(self, ring.is_between(first, middle, last), expected)
        ring = Ring(Piece(Ratio(1, 2), 1), 1, 2)
        check_same(self, ring.is_between(last=1, first=0, middle=2), True)

    def test_numbers_that_are_not_in_the_ring(self):
        ring = Ring(Piece(Ratio(1, 2), 1), 1, 2)
        for value in any_values() + [3, -1, 48]:
            if type(value) is not int or value not in (0, 1, 2):
                for call in (ring.place, ring.after, ring.before, ring.arc):
                    check_raises(self, BadNumber(value), call, value)
                check_first_raises(self, BadNumber(value), ring.walk, value)
                check_raises(self, BadNumber(value), ring.is_between, value, "x", None)
                check_raises(self, BadNumber(value), ring.is_between, 0, value, None)
                check_raises(self, BadNumber(value), ring.is_between, 0, 1, value)
                check_raises(self, BadNumber(value), ring.is_between, 1, 1, value)

    def test_keys_refuse(self):
        ring = Ring(Piece(Ratio(1, 2), Ratio(3, 5)), 1, 2)
        for value in any_values() + [Ratio(3, 5), Ratio(2, 3), Ratio(1, LONG)]:
            check_raises(self, BadFifth(value), ring, value)

    def test_arcs_against_keys(self):
        for ring, piece, numbers in rings():
            arcs = list(ring.arcs())
            self.assertEqual([arc.low for arc in arcs], list(ring.order))
            self.assertEqual([arc.high for arc in arcs], list(ring.order[1:]) + [0])
            self.assertEqual(sum(arc.left for arc in arcs), piece.left.bottom)
            self.assertEqual(sum(arc.right for arc in arcs), piece.right.bottom)
            for arc in arcs:
                check_same(self, [arc == ring.arc(arc.low), arc == ring.arc(number=arc.low)], [True, True])
                self.assertTrue(arc.left >= 0 and arc.right >= 0 and (arc.left, arc.right) != (0, 0))
                self.assertEqual(arc.width.fifths, arc.high - arc.low)
            for u, v in SPOTS:
                fifth = piece.ratio(u, v)
                keys = list(ring(fifth)) + [fifth.bottom]
                for at, arc in enumerate(arcs):
                    check_same(self, arc.count(u, v), keys[at + 1] - keys[at] - 1)
                    self.assertEqual(exact(arc.width(fifth)), Fraction(keys[at + 1] - keys[at], fifth.bottom))

    def test_weights_by_the_document(self):
        for ring, piece, numbers in rings():
            a, b, c, d = piece.left.top, piece.left.bottom, piece.right.top, piece.right.bottom
            for arc in ring.arcs():
                m, step = -arc.width.octaves, arc.high - arc.low
                check_same(self, (arc.left, arc.right), (step * a - m * b, step * c - m * d))
        check_same(self, Ring(FAR).arc(0) == Arc(0, 0, LONG, 1, Tone(1, 0)), True)

    def test_on(self):
        pieces = all_pieces(6)
        for ring, piece, numbers in rings():
            for inner in pieces + [FAR]:
                if inner <= piece:
                    there = ring.on(inner)
                    check_same(self, [there == Ring(inner, *numbers), there.order], [True, ring.order])
                else:
                    check_raises(self, BadPiece("piece"), ring.on, inner)
        ring = Ring(Piece(Ratio(1, 2), 1), 1)
        check_same(self, ring.on(piece=ring.piece) == ring, True)
        for value in any_values():
            if not isinstance(value, Piece):
                check_raises(self, BadPiece("piece"), ring.on, value)

    def test_equal(self):
        made = list(rings())
        for (one, piece, numbers), (other, place, row) in itertools.product(made[::3], made):
            expected = (str(piece), numbers) == (str(place), row)
            check_same(self, [one == other, one != other], [expected, not expected])
        for value in any_values() + [(0,), [0]]:
            if not isinstance(value, Ring):
                check_same(self, [Ring(Piece.whole()) == value, value == Ring(Piece.whole())], [False, False])

    def test_great_rings_are_quick(self):
        ring = check_quick(self, Ring, FAR, *range(-48, 49))
        check_quick(self, lambda: [list(ring.arcs()), ring(FAR.ratio(LONG, LONG + 1)), list(ring.walk(5))])
        check_quick(self, check_raises, self, Meets(-48, -46, Ratio(1, 2)), Ring, Piece.whole(), *range(-48, 49))
        check_quick(self, lambda: [ring.is_between(one, 0, other) for one in range(-48, 49) for other in range(-48, 49)])

    def test_each_method_stands_in_the_class(self):
        for name in ("place", "after", "before", "walk", "is_between", "arcs", "arc", "on", "__call__", "__len__",
                     "__contains__", "__eq__"):
            self.assertIn(name, vars(Ring))
        for name in ("count", "__eq__"):
            self.assertIn(name, vars(Arc))
        self.assertEqual([Ring.__module__, Arc.__module__], ["anyfifth.rings"] * 2)


class ArcTest(unittest.TestCase):
    def test_a_paper_of_any_values(self):
        values = any_values()
        fields = ("low", "high", "left", "right", "width")
        for at in range(len(values)):
            given = [values[at - k] for k in range(5)]
            for arc in (Arc(*given), Arc(**dict(zip(fields, given)))):
                for field, value in zip(fields, given):
                    self.assertIs(getattr(arc, field), value)
            check_same(self, Arc(*given) == Arc(*given), True)

    def test_equal_attributes(self):
        base = [0, 1, 2, 3, Tone(1)]
        for at in range(5):
            other = list(base)
            other[at] = "other"
            check_same(self, [Arc(*base) == Arc(*other), Arc(*base) != Arc(*other)], [False, True])
        check_same(self, Arc(*base) == Arc(0, 1, 2, 3, Tone(1, 0)), True)
        for value in any_values():
            check_same(self, [Arc(9, 9, 9, 9, 9) == value, value == Arc(9, 9, 9, 9, 9)], [False, False])

    def test_count(self):
        check_same(self, [Arc(None, "x", 2, 3, ()).count(5, 7), Arc(0, 0, 0, 1, 0).count(v=1, u=2)], [30, 0])
        check_same(self, Arc(0, 0, LONG, 1, 0).count(LONG, -1), LONG * LONG - 2)


if __name__ == "__main__":
    unittest.main()
