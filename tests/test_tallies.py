import itertools
import unittest
from fractions import Fraction

from anyfifth.errors import BadFifth, BadPiece, BadSaying, TooMany
from anyfifth.pieces import Piece
from anyfifth.ratios import Ratio
from anyfifth.sayings import All, Any, At, Between, Not, Saying
from anyfifth.tallies import Part, Tally, count, holding, settled, share, tally
from anyfifth.terms import Moving, Note
from anyfifth.tones import Tone
from tests import said
from tests.said import comparisons, holds, marks_of, some_sayings
from tests.support import (
    all_pieces, any_values, check_examples, check_first_raises, check_quick, check_raises, check_same, exact,
    fifths_to)

EXAMPLES = """
>>> from anyfifth.tallies import Part, count, holding, settled, share, tally
>>> [[(str(part.piece), part.x, part.y, part.z, str(part.share)) for part in tally(inside).parts()], tally(inside)(Ratio(3, 7)), list(holding(inside, Ratio(3, 7)))]
[[('0/1 1/1', 0, 1, -1, '0,1')], 2, [3, 5]]
>>> [[(str(part.piece), part.x, part.y, part.z, str(part.share)) for part in tally(two).parts()], [(str(fifth), many) for fifth, many in tally(two).middles()]]
[[('0/1 1/2', 0, 0, 0, '0,0'), ('1/2 1/1', 1, 0, 0, '1,-1')], [('1/2', 0)]]
>>> [str(piece) for piece in settled(two)], count(two, Ratio(10 ** 30 - 1, 10 ** 30)), str(share(two, Piece(Ratio(1, 2), 1))), share(two, Piece.whole())
(['0/1 1/2', '1/2 1/1'], 1, '1,-1', None)
>>> [[(part.x, part.y, part.z) for part in tally(All()).parts()], [(part.x, part.y, part.z) for part in tally(Any()).parts()]]
[[(1, 1, 0)], [(0, 0, 0)]]
"""

LONG = 10 ** 39 + 7
FAR_FIFTHS = [Ratio(LONG, 2 * LONG + 1), Ratio(1, LONG), Ratio(LONG - 1, LONG), Ratio(10 ** 39, 3 * 10 ** 39 + 1)]
FAR = Piece(Ratio(LONG - 1, LONG), 1)
INSIDE = Between(Note(0), Moving(0), Note(1))
TWO = INSIDE & ~Between(Note(0), Moving(0), Note(2))


def sayings():
    return some_sayings()[::3] + comparisons()[3::11]


def count_of(saying, fifth):
    """The number of keys at which a saying holds, counted one by one."""
    return sum(holds(saying, n, fifth.top, fifth.bottom) for n in range(fifth.bottom))


def settled_pieces(saying):
    """The pieces that settle a saying, by a search for meeting marks at each fraction."""
    marks = sorted(marks_of(saying) | {0})
    steps = {other - one for one, other in itertools.combinations(marks, 2)}
    bottoms = {bottom for step in steps for bottom in range(2, step + 1) if step % bottom == 0}

    def parted(a, b, c, d):
        meets = any(any(Fraction(a, b) < Fraction(top, bottom) < Fraction(c, d) for top in range(bottom))
                    for bottom in bottoms)
        if not meets:
            return [Piece(Ratio(a, b), Ratio(c, d))]
        return parted(a, b, a + c, b + d) + parted(a + c, b + d, c, d)
    return parted(0, 1, 1, 1)


def formula(saying, piece):
    """The x, y, z of a saying on a piece that settles it, solved from three counts."""
    one, left, right = (count_of(saying, piece.ratio(u, v)) for u, v in ((1, 1), (2, 1), (1, 2)))
    return left - one, right - one, 3 * one - left - right


def least_tally(saying):
    """The leaves (piece, x, y, z) and the branches (fifth, count) of the least tally."""
    pieces = settled_pieces(saying)

    def made(piece):
        if piece in pieces:
            return [(piece, *formula(saying, piece))], []
        left, right = piece.halves
        one, other = made(left), made(right)
        many = count_of(saying, piece.middle)
        if len(one[0]) == len(other[0]) == 1:
            (_, x, y, z), (_, s, t, r) = one[0][0], other[0][0]
            if z == r and y == s == x + t and many == x + t + z:
                return [(piece, x, t, z)], []
        return one[0] + other[0], one[1] + [(piece.middle, many)] + other[1]
    return made(Piece.whole())


class SettledTest(unittest.TestCase):
    def test_examples(self):
        names = {}
        exec("from anyfifth.ratios import Ratio\nfrom anyfifth.pieces import Piece\nfrom anyfifth.tones import Tone\n"
             "from anyfifth.terms import Moving, Note\nfrom anyfifth.sayings import All, Any, Between\n"
             "inside = Between(Note(0), Moving(0), Note(1))\n"
             "two = inside & ~Between(Note(0), Moving(0), Note(2))", names)
        check_examples(self, EXAMPLES, names)

    def test_against_a_search(self):
        for saying in sayings():
            check_same(self, list(settled(saying)), settled_pieces(saying))
        check_same(self, [list(settled(All())), list(settled(saying=INSIDE))], [[Piece.whole()]] * 2)

    def test_refuses(self):
        for value in any_values():
            if not isinstance(value, Saying):
                check_first_raises(self, BadSaying("saying"), settled, value)
                check_raises(self, BadSaying("saying"), tally, value)


class TallyTest(unittest.TestCase):
    def test_the_least_tree(self):
        for saying in sayings():
            found = tally(saying)
            parts, middles = least_tally(saying)
            self.check_parts(list(found.parts()), parts)
            check_same(self, list(found.backward()), list(found.parts())[::-1])
            check_same(self, list(found.middles()), middles)
            check_same(self, len(found), len(parts))

    def check_parts(self, found, expected):
        self.assertEqual(len(found), len(expected))
        for part, (piece, x, y, z) in zip(found, expected):
            check_same(self, [part.piece, part.x, part.y, part.z], [piece, x, y, z])
            a, b, c, d = piece.left.top, piece.left.bottom, piece.right.top, piece.right.bottom
            g, h = part.share.octaves, part.share.fifths
            check_same(self, [type(part), b * g + a * h, d * g + c * h], [Part, x, y])

    def test_counts_at_all_fractions(self):
        for saying in sayings():
            found = tally(saying)
            for fifth in fifths_to(16):
                many = count_of(saying, fifth)
                check_same(self, [found(fifth), count(saying, fifth)], [many, many])
        check_same(self, [tally(saying=INSIDE)(fifth=Ratio(5, 12)), count(saying=INSIDE, fifth=Ratio(5, 12))], [4, 4])

    def test_counts_at_spots_of_the_parts(self):
        for saying in sayings()[::3]:
            for part in tally(saying).parts():
                for u, v in ((1, 1), (5, 2), (1, 4), (7, 3)):
                    fifth = part.piece.ratio(u, v)
                    if fifth.bottom < 200:
                        check_same(self, part.count(u, v), count_of(saying, fifth))

    def test_counts_beyond_the_span(self):
        for saying in sayings()[::4] + [said.widest()]:
            found = tally(saying)
            for fifth in fifths_to(60)[::37] + [Ratio(20, 49), Ratio(31, 48), Ratio(17, 50), Ratio(96, 97)]:
                many = count_of(saying, fifth)
                check_same(self, [found(fifth), count(saying, fifth)], [many, many])
            for fifth in FAR_FIFTHS:
                check_same(self, count(saying, fifth), found(fifth))

    def test_far_counts(self):
        for many in (10 ** 30, LONG):
            check_same(self, [count(INSIDE, Ratio(many - 1, many)), count(INSIDE, Ratio(1, many))], [many - 2, 0])
            check_same(self, [count(All(), Ratio(1, many)), count(Any(), Ratio(1, many))], [many, 0])
            check_same(self, count(At(Moving(0), Note(5)), Ratio(many - 1, many)), 1)

    def test_part_at(self):
        for saying in sayings():
            found = tally(saying)
            parts, middles = list(found.parts()), dict((str(fifth), True) for fifth, _ in found.middles())
            for fifth in fifths_to(13) + FAR_FIFTHS:
                around = [part for part in parts if fifth in part.piece]
                check_same(self, found.part_at(fifth), around[0] if around else None)
                self.assertEqual(not around, str(fifth) in middles)
                if around:
                    check_same(self, around[0].count(*around[0].piece.spot(fifth)), found(fifth))
        check_same(self, tally(TWO).part_at(fifth=Ratio(1, 2)), None)

    def test_refuses(self):
        found = tally(TWO)
        for value in any_values() + [Ratio(0), Ratio(1)]:
            if not Ratio.is_fifth(value):
                check_raises(self, BadFifth(value), found, value)
                check_raises(self, BadFifth(value), found.part_at, value)
                check_raises(self, BadFifth(value), count, TWO, value)
        for value, fifth in itertools.product(any_values(), any_values()):
            if not isinstance(value, Saying):
                check_raises(self, BadSaying("saying"), count, value, fifth)

    def test_mirrored(self):
        for saying in sayings():
            found = tally(saying)
            mirrored = found.mirrored()
            check_same(self, [mirrored == tally(saying.mirrored()), mirrored.mirrored() == found], [True, True])
            check_same(self, [mirrored(1 - fifth) for fifth in fifths_to(9)], [found(fifth) for fifth in fifths_to(9)])
            for part, other in zip(mirrored.parts(), found.backward()):
                self.assertEqual([str(part.piece.left), str(part.piece.right)],
                                 [str(1 - other.piece.right), str(1 - other.piece.left)])
                for fifth in fifths_to(5):
                    check_same(self, part.share(1 - fifth), other.share(fifth))

    def test_equal(self):
        made = [(tally(saying), least_tally(saying)) for saying in sayings()[::3]]
        for (one, told), (other, known) in itertools.product(made, made):
            check_same(self, [one == other, one != other], [told == known, told != known])
        check_same(self, [tally(INSIDE) == tally(~~INSIDE), tally(INSIDE) == tally(All(INSIDE, INSIDE, All())),
                          tally(INSIDE) == tally(INSIDE.moved(5)), tally(INSIDE) == tally(~INSIDE)],
                   [True, True, True, False])
        for value in any_values():
            if not isinstance(value, Tally):
                check_same(self, [made[0][0] == value, value == made[0][0]], [False, False])

    def test_a_saying_and_its_denial(self):
        for saying in sayings()[::2]:
            if saying.deep < 6:
                one, other = tally(saying), tally(Not(saying))
                for fifth in fifths_to(12):
                    self.assertEqual(one(fifth) + other(fifth), fifth.bottom)

    def test_each_method_stands_in_the_class(self):
        for name in ("parts", "backward", "middles", "part_at", "mirrored", "__len__", "__call__", "__eq__"):
            self.assertIn(name, vars(Tally))
        for name in ("count", "__eq__"):
            self.assertIn(name, vars(Part))
        for one in (Part, Tally, count, holding, settled, share, tally):
            self.assertEqual(one.__module__, "anyfifth.tallies")

    def test_great_sayings_are_quick(self):
        saying = said.widest()
        found = check_quick(self, tally, saying)
        check_quick(self, lambda: [list(found.parts()), list(found.backward()), list(found.middles()), len(found)])
        check_quick(self, lambda: [found(fifth) for fifth in FAR_FIFTHS + fifths_to(60)])
        check_quick(self, lambda: [count(saying, fifth) for fifth in FAR_FIFTHS])
        check_quick(self, lambda: list(settled(saying)))
        check_quick(self, lambda: [share(saying, Piece.whole()), share(saying, FAR)])
        check_quick(self, lambda: list(holding(saying, Ratio(4999, 10000))))
        check_quick(self, lambda: [found.mirrored(), found == tally(saying)])
        self.assertGreater(len(found), 50)


class HoldingTest(unittest.TestCase):
    def test_against_keys(self):
        for saying in sayings():
            for fifth in fifths_to(9):
                expected = [n for n in range(fifth.bottom) if holds(saying, n, fifth.top, fifth.bottom)]
                check_same(self, list(holding(saying, fifth)), expected)
        check_same(self, list(holding(fifth=Ratio(3, 7), saying=INSIDE)), [3, 5])

    def test_10000_keys_and_more(self):
        check_same(self, len(list(holding(INSIDE, Ratio(4999, 10000)))), 4998)
        for fifth in (Ratio(1, 10001), Ratio(5000, 10001)) + tuple(FAR_FIFTHS):
            check_first_raises(self, TooMany("keys", 10000), holding, INSIDE, fifth)

    def test_refuses(self):
        for saying, fifth in itertools.product(any_values() + [Ratio(1, 20000)], any_values() + [Ratio(1, 20000)]):
            if not isinstance(saying, Saying):
                check_first_raises(self, BadSaying("saying"), holding, saying, fifth)
            elif not Ratio.is_fifth(fifth):
                check_first_raises(self, BadFifth(fifth), holding, saying, fifth)


class ShareTest(unittest.TestCase):
    def share_at(self, saying, fifth):
        """How often a saying holds far on at a fifth, about."""
        return Fraction(count(saying, fifth), fifth.bottom)

    def test_shares_of_the_parts(self):
        for saying in sayings():
            for part in tally(saying).parts():
                check_same(self, share(saying, part.piece), part.share)
                u, v = 10 ** 9 + 7, 6 * 10 ** 8 + 1
                fifth = part.piece.ratio(u, v)
                self.assertLess(abs(self.share_at(saying, fifth) - exact(part.share(fifth))), Fraction(1, 10 ** 6))

    def test_shares_of_all_pieces(self):
        for saying in sayings()[::3]:
            pieces = settled_pieces(saying)
            told = [(piece, share(saying, piece)) for piece in pieces]
            for piece in all_pieces(5) + [FAR]:
                found = [one for inner, one in told if inner <= piece]
                if found:
                    expected = found[0] if all(one == found[0] for one in found) else None
                else:
                    expected = [one for inner, one in told if piece <= inner][0]
                check_same(self, share(saying, piece), expected)

    def test_one_share_whatever_the_counts_are(self):
        saying = At(Moving(0), Note(2)) | At(Moving(0), Note(0))
        self.assertGreater(len(tally(saying)), 1)
        check_same(self, share(saying, Piece.whole()), Tone(0))
        check_same(self, share(Not(saying), Piece.whole()), Tone(1))
        check_same(self, [share(saying=INSIDE, piece=FAR), share(All(), FAR), share(Any(), FAR)],
                   [Tone(0, 1), Tone(1), Tone(0)])

    def test_refuses(self):
        for saying, piece in itertools.product(any_values() + [TWO], any_values()):
            if not isinstance(saying, Saying):
                check_raises(self, BadSaying("saying"), share, saying, piece)
            elif not isinstance(piece, Piece):
                check_raises(self, BadPiece("piece"), share, saying, piece)


class PartTest(unittest.TestCase):
    def test_a_paper_of_any_values(self):
        values = any_values()
        fields = ("piece", "x", "y", "z", "share")
        for at in range(len(values)):
            given = [values[at - k] for k in range(5)]
            for part in (Part(*given), Part(**dict(zip(fields, given)))):
                for field, value in zip(fields, given):
                    self.assertIs(getattr(part, field), value)
            check_same(self, Part(*given) == Part(*given), True)

    def test_equal_attributes(self):
        base = [Piece.whole(), 1, 2, 3, Tone(1)]
        for at in range(5):
            other = list(base)
            other[at] = "other"
            check_same(self, [Part(*base) == Part(*other), Part(*base) != Part(*other)], [False, True])
        check_same(self, Part(*base) == Part(Piece(0, 1), 1, 2, 3, Tone(1, 0)), True)
        for value in any_values():
            check_same(self, [Part(9, 9, 9, 9, 9) == value, value == Part(9, 9, 9, 9, 9)], [False, False])

    def test_count(self):
        check_same(self, [Part(None, 2, 3, 4, ()).count(5, 7), Part(0, 1, -1, 0, 0).count(v=1, u=2)], [35, 1])


if __name__ == "__main__":
    unittest.main()
