import itertools
import unittest
from fractions import Fraction

from anyfifth.errors import BadFifth, BadNumber, BadPiece, BadRegion, BadText, BadTruth, TooMany
from anyfifth.pieces import Piece, path, ratio_by
from anyfifth.ratios import Ratio
from anyfifth.regions import Region
from tests import models
from tests.models import check_fractions, check_region, some_regions
from tests.support import (
    all_pieces, any_values, check_examples, check_first_raises, check_quick, check_raises, check_same, exact,
    fifths_to, ratio_of, row_to)

EXAMPLES = """
>>> from anyfifth.regions import Region
>>> odd = Region.beside(Ratio(1, 2), "left")
>>> [[str(one) for one in odd.listed(9)], len(odd), str(odd), Ratio(3, 8) in odd, odd.mirrored() == Region.beside(Ratio(1, 2), "right")]
[['1/3', '2/5', '3/7', '4/9'], 2, '0 10100 00000', False, True]
>>> [str(one) for one in Region.beside(Ratio(2, 5), "left").listed(13)]
['1/3', '3/8', '5/13']
>>> [(str(piece.middle), truths) for piece, truths in odd.parts()]
[('1/3', (True, False, True, False, False)), ('2/3', (False, False, False, False, False))]
>>> [odd.truths_on(Piece(Ratio(1, 3), Ratio(1, 2))), odd.truths_on(Piece.whole()), [(str(one), truth) for one, truth in odd.middles()]]
[(True, False, True, False, False), None, [('1/2', False)]]
>>> wide = Region.stretch(0, Ratio(1, 2)) - odd
>>> [str(wide), str(wide.simplest()), wide < Region.stretch(0, Ratio(1, 2)), bool(wide & odd), str(Region.rational()), str(~Region.rational())]
['0 01011 00000', '1/4', True, False, '11110', '00001']
>>> [str(Region.only(Ratio(1, 2))), str(Region.only(Ratio(2, 5))), len(Region.only(Ratio(1, 202))), str(Region.joined(False, odd, Region.none()).simplest())]
['10000', '0 0 00000 10000 00000', 201, '1/4']
>>> Region.only(Ratio(1, 203))
raises TooMany('levels', 200)
>>> Region.read("0 10100")
raises BadText(0, 2)
>>> Region.read("1 11110 11110")
raises BadText(0, 0)
"""

LONG = 10 ** 39 + 7
LEVELS = TooMany("levels", 200)
PIECES = TooMany("pieces", 2000)


def far_fifths():
    """Fractions of 40 figures with all kinds of ways down to them."""
    return [ratio_by(*([1] * 185), 5), ratio_by(*([2] * 60), 10 ** 15), Ratio(1, LONG), Ratio(LONG - 1, LONG),
            Ratio(LONG, 2 * LONG + 1), Ratio(10 ** 39, 3 * 10 ** 39 + 1)]


def text_of_leaves(many):
    """A text of a least tree with just so many leaves: as even as can be, with unlike leaves side by side."""
    words = []

    def put(count):
        if count == 1:
            words.append(("00100", "01001", "10110")[len(words) % 3])
        else:
            words.append("01"[len(words) % 2])
            put(count // 2)
            put(count - count // 2)
    put(many)
    return " ".join(words)


class MakingTest(unittest.TestCase):
    def test_examples(self):
        names = {}
        exec("from anyfifth.ratios import Ratio\nfrom anyfifth.pieces import Piece", names)
        check_examples(self, EXAMPLES, names)

    def test_class_values(self):
        check_same(self, [Region.LEVELS, Region.MOST, Region.KINDS],
                   [200, 2000, ("middle", "left", "right", "other", "none")])

    def test_the_three_without_arguments(self):
        always = models.Model(lambda x: True, lambda x: True)
        fractions = models.Model(lambda x: True, lambda x: False)
        for region, model in ((Region.every(), always), (Region.none(), ~always), (Region.rational(), fractions)):
            check_region(self, region, model)
            check_fractions(self, region, model)
        check_same(self, [str(Region.every()), str(Region.none()), str(Region.rational())], ["11111", "00000", "11110"])

    def test_every_way_to_make_against_the_least_tree(self):
        for region, model in some_regions(Region, 6):
            check_region(self, region, model)
            check_fractions(self, region, model)

    def test_only(self):
        check_same(self, [str(Region.only()), Region.only() == Region.none()], ["00000", True])
        row = row_to(6)[1:-1]
        for many in range(2, len(row) + 1):
            told = row[:many]
            region = Region.only(*[ratio_of(one) for one in told])
            check_region(self, region, models.m_only(*told))
            check_same(self, [region.simplest(), list(region.listed(1000))],
                       [min([ratio_of(one) for one in told], key=lambda one: one.bottom),
                        sorted([ratio_of(one) for one in told], key=lambda one: (one.bottom, exact(one)))])
        one, other = Ratio(2, 5), Ratio(3, 7)
        check_same(self, Region.only(one, other, one) == Region.only(other, one), True)

    def test_only_refuses(self):
        for value in any_values() + [1, Ratio(1), Ratio(0), Ratio(-1, 2)]:
            if not Ratio.is_fifth(value):
                check_raises(self, BadFifth(value), Region.only, value)
                check_raises(self, BadFifth(value), Region.only, Ratio(1, 2), value, None, "x")
                check_raises(self, BadFifth(value), Region.only, Ratio(1, LONG), Ratio(1, 203), value)

    def test_stretch_of_numbers(self):
        for low, high in ((0, 1), (Ratio(0), 1), (0, Ratio(1)), (Ratio(0), Ratio(1))):
            check_same(self, Region.stretch(low, high) == Region.every(), True)
        for low, high in ((1, 0), (1, 1), (0, 0), (Ratio(1), Ratio(0)), (Ratio(1, 2), Ratio(1, 2)),
                          (Ratio(1, 2), Ratio(1, 3)), (1, Ratio(1, LONG)), (Ratio(1, 2), Ratio(1, LONG))):
            check_same(self, Region.stretch(low, high) == Region.none(), True)
        check_same(self, Region.stretch(high=Ratio(1, 2), low=0) == Region.stretch(0, Ratio(1, 2)), True)

    def test_stretch_refuses(self):
        def fits(value):
            return Ratio.is_number(value) and 0 <= value <= 1
        more = [Ratio(-1, LONG), Ratio(LONG + 1, LONG), -1, 2]
        for low, high in itertools.product(any_values() + more, any_values() + more):
            if not fits(low):
                check_raises(self, BadRegion(low), Region.stretch, low, high)
            elif not fits(high):
                check_raises(self, BadRegion(high), Region.stretch, low, high)
        check_raises(self, BadRegion(2), Region.stretch, Ratio(1, 203), 2)

    def test_beside_are_the_neighbours(self):
        for fifth in fifths_to(9):
            for side in ("left", "right"):
                region = Region.beside(fifth, side)
                for one in fifths_to(25):
                    found = abs(one.bottom * fifth.top - one.top * fifth.bottom) == 1
                    check_same(self, one in region, found and (one < fifth) == (side == "left"))
        check_same(self, Region.beside(side="left", fifth=Ratio(1, 2)) == Region.beside(Ratio(1, 2), "left"), True)

    def test_beside_refuses(self):
        for fifth, side in itertools.product(any_values(), any_values() + ["left ", "Left", "middle"]):
            if not Ratio.is_fifth(fifth):
                check_raises(self, BadFifth(fifth), Region.beside, fifth, side)
            else:
                check_raises(self, BadRegion(side), Region.beside, fifth, side)
        check_raises(self, BadRegion(None), Region.beside, Ratio(1, LONG), None)

    def test_leaf_refuses(self):
        for at, value in itertools.product(range(5), any_values()):
            if type(value) is not bool:
                for truths in ([True] * 5, [value] * 5, [False] * at + [None] * (5 - at)):
                    truths[at] = value
                    first = truths[0] if type(truths[0]) is not bool else value
                    check_raises(self, BadTruth(first), Region.leaf, *truths)
        check_raises(self, BadTruth(1), Region.leaf, True, 1, 0, False, None)
        check_same(self, str(Region.leaf(bare=True, other=False, right=True, left=False, middle=False)), "00101")

    def test_joined(self):
        made = some_regions(Region, 3)
        for truth, (one, model), (other, told) in itertools.product((False, True), made[::2], made[::3]):
            region = Region.joined(truth, one, other)
            check_region(self, region, models.m_joined(truth, model, told), 4)
        region, model = Region.joined(True, *[one for one, _ in made[40:42]]), None
        model = models.m_joined(True, made[40][1], made[41][1])
        check_fractions(self, region, model)
        check_same(self, Region.joined(right=made[41][0], truth=True, left=made[40][0]) == region, True)

    def test_joined_refuses(self):
        for truth, left, right in itertools.product(any_values(), any_values(), any_values()[::7] + [Region.none()]):
            if type(truth) is not bool:
                check_raises(self, BadTruth(truth), Region.joined, truth, left, right)
            elif not isinstance(left, Region):
                check_raises(self, BadRegion(left), Region.joined, truth, left, right)
            elif not isinstance(right, Region):
                check_raises(self, BadRegion(right), Region.joined, truth, left, right)

    def test_each_method_stands_in_the_class(self):
        for name in ("every", "none", "rational", "only", "stretch", "beside", "leaf", "joined", "parts", "backward",
                     "middles", "truths_on", "listed", "simplest", "mirrored", "read", "__str__", "__invert__",
                     "__and__", "__or__", "__sub__", "__xor__", "__le__", "__lt__", "__ge__", "__gt__", "__eq__",
                     "__contains__", "__bool__", "__len__"):
            self.assertIn(name, vars(Region))
        self.assertEqual(Region.__module__, "anyfifth.regions")


class BoundsTest(unittest.TestCase):
    def test_200_and_201_levels(self):
        for quotients in ((200, 2), (202,), (1, 201), (100, 102), (7, 90, 5, 100), (1,) * 200 + (2,)):
            fits, refused = ratio_by(*quotients), ratio_by(quotients[0] + 1, *quotients[1:])
            self.assertEqual(sum(path(fits)), 202)
            check_same(self, [len(Region.only(fits)), fits in Region.only(fits)], [201, True])
            check_raises(self, LEVELS, Region.only, refused)
            check_raises(self, LEVELS, Region.only, Ratio(1, 2), refused)
        for quotients in ((201,), (1, 200), (199, 2), (60, 41, 100), (1,) * 199 + (2,)):
            fits, refused = ratio_by(*quotients), ratio_by(*quotients[:-1], quotients[-1] + 1)
            for make in (lambda fifth: Region.beside(fifth, "left"), lambda fifth: Region.beside(fifth, "right"),
                         lambda fifth: Region.stretch(0, fifth), lambda fifth: Region.stretch(fifth, 1)):
                check_same(self, len(make(fits)), 201)
                check_raises(self, LEVELS, make, refused)
            self.assertGreater(len(Region.stretch(*sorted([fits, Ratio(2, 5)], key=exact))), 200)
            check_raises(self, LEVELS, Region.stretch, *sorted([refused, Ratio(2, 5)], key=exact))

    def test_joined_and_read_at_the_levels(self):
        deep = Region.only(ratio_by(100, 101))
        self.assertEqual(len(deep), 200)
        for truth in (False, True):
            self.assertEqual(len(Region.joined(truth, deep, Region.none())), 201)
            self.assertEqual(len(Region.joined(truth, Region.every(), deep)), 201)
        deepest = Region.joined(False, deep, Region.none())
        for sides in ((deepest, Region.none()), (Region.rational(), deepest), (deepest, deepest)):
            check_raises(self, LEVELS, Region.joined, True, *sides)
        text = str(deepest)
        check_same(self, Region.read(text) == deepest, True)
        check_raises(self, LEVELS, Region.read, f"0 {text} 00000")
        check_raises(self, LEVELS, Region.read, f"0 00000 {text}")
        check_raises(self, BadText(0, 0), Region.read, f"0 {text} 0 00000 00000")
        check_raises(self, BadText(0, len(text.split(" ")) + 1), Region.read, f"0 {text}")

    def test_far_down_no_tree_is_built(self):
        for fifth in far_fifths():
            levels = sum(path(fifth)) - 2
            if levels <= 199:
                check_same(self, len(check_quick(self, Region.only, fifth)), levels + 1)
                check_same(self, len(check_quick(self, Region.beside, fifth, "left")), levels + 2)
                check_same(self, len(check_quick(self, Region.stretch, fifth, 1)), levels + 2)
                continue
            check_quick(self, check_raises, self, LEVELS, Region.only, fifth)
            check_quick(self, check_raises, self, LEVELS, Region.only, *fifths_to(30), fifth)
            for side in ("left", "right"):
                check_quick(self, check_raises, self, LEVELS, Region.beside, fifth, side)
            check_quick(self, check_raises, self, LEVELS, Region.stretch, fifth, 1)
            check_quick(self, check_raises, self, LEVELS, Region.stretch, 0, fifth)
        check_quick(self, check_raises, self, LEVELS, Region.stretch, Ratio(1, LONG), Ratio(LONG, 2 * LONG + 1))

    def test_levels_ahead_of_pieces(self):
        many = fifths_to(100)
        self.assertGreater(len(many), 2500)
        check_raises(self, LEVELS, Region.only, *many, Ratio(1, 203))
        check_raises(self, LEVELS, Region.only, Ratio(1, LONG), *many)
        text = text_of_leaves(2000)
        for _ in range(190):
            text = f"0 00001 {text}"
        check_raises(self, LEVELS, Region.read, text)
        left = Region.read(text_of_leaves(2000))
        deep = Region.only(Ratio(1, 202))
        check_raises(self, LEVELS, Region.joined, False, left, deep)

    def test_2000_and_2001_leaves(self):
        row = [fifth for fifth in fifths_to(150) if exact(fifth) < Fraction(1, 2)]
        for many in (300, 900):
            self.assertEqual(len(Region.only(*row[:many])), leaves_of_only(row[:many]))
        # One fraction more on the empty side makes one leaf more for each key.
        most = 1000
        while leaves_of_only(row[:most + 20]) < 1980:
            most = most + 20
        more = 2000 - leaves_of_only(row[:most] + [Ratio(2, 3)])
        fits, refused = (row[:most] + [ratio_by(1, 2 + more + further)] for further in (0, 1))
        self.assertEqual([leaves_of_only(fits), leaves_of_only(refused)], [2000, 2001])
        check_same(self, [len(Region.only(*fits)), len(Region.only(*fits, *fits[::-1]))], [2000, 2000])
        check_raises(self, PIECES, Region.only, *refused)
        check_raises(self, PIECES, Region.only, *row, *row[::-1])
        check_same(self, len(Region.read(text_of_leaves(2000))), 2000)
        check_raises(self, PIECES, Region.read, text_of_leaves(2001))
        check_raises(self, BadText(0, 4001), Region.read, text_of_leaves(2001) + " 0")

    def test_operators_at_2000_and_2001_leaves(self):
        one = Region.read(text_of_leaves(1000))
        check_same(self, len(Region.joined(True, one, one)), 2000)
        check_raises(self, PIECES, Region.joined, True, one, Region.read(text_of_leaves(1001)))
        left = Region.joined(False, Region.read(text_of_leaves(1001)), Region.none())
        right = Region.joined(False, Region.none(), Region.read(text_of_leaves(1000)))
        self.assertEqual([len(left), len(right)], [1002, 1001])
        for call in (lambda: left | right, lambda: left ^ right, lambda: ~left & ~right, lambda: ~left - right):
            check_raises(self, PIECES, call)
        fits = Region.joined(False, one, Region.none())
        check_same(self, [len(fits | right), len(fits ^ right), len(~fits & ~right), len(~fits - right)], [2000] * 4)
        check_same(self, [len(~(fits | right)), len((fits | right).mirrored())], [2000, 2000])

    def test_in_place_a_refused_result_leaves_the_name(self):
        left = Region.joined(False, Region.read(text_of_leaves(1001)), Region.none())
        right = Region.joined(False, Region.none(), Region.read(text_of_leaves(1000)))
        name = left
        with self.assertRaises(TooMany):
            name |= right
        self.assertIs(name, left)
        self.assertEqual(len(left), 1002)

    def test_comparisons_raise_nothing(self):
        left = Region.joined(False, Region.read(text_of_leaves(1001)), Region.none())
        right = Region.joined(False, Region.none(), Region.read(text_of_leaves(1000)))
        check_same(self, [left <= right, left < right, left >= right, left > right, left == right], [False] * 5)
        check_same(self, [left <= ~right, left < ~right, ~right >= left, ~right > left], [True] * 4)

    def test_great_regions_are_quick(self):
        one, other = Region.read(text_of_leaves(2000)), Region.read(text_of_leaves(2000)).mirrored()
        small = Region.stretch(Ratio(1, 3), Ratio(1, 2))
        check_quick(self, lambda: [one & small, one | small, one - small, one ^ small, ~one, one == other])
        check_quick(self, lambda: [one <= other, one < other, one >= other, one > other, bool(one), len(one)])
        check_quick(self, lambda: [list(one.parts()), list(one.backward()), list(one.middles()), str(one)])
        check_quick(self, lambda: [fifth in one for fifth in fifths_to(60) + far_fifths()])
        check_quick(self, lambda: [one.simplest(), one.mirrored(), Region.read(str(one))])
        check_quick(self, lambda: list(one.listed(1000)))
        check_quick(self, lambda: list(Region.every().listed(1000)))
        deep = check_quick(self, lambda: Region.only(Ratio(1, 202)) ^ Region.stretch(Ratio(1, 201), Ratio(200, 201)))
        check_quick(self, lambda: [str(deep), deep.mirrored(), ~deep, deep.simplest(), list(deep.parts())])
        check_quick(self, check_raises, self, BadText(0, 60000), Region.read, "0 " * 60000)
        check_quick(self, check_raises, self, LEVELS, Region.read, "0 " * 9000 + "00100 " * 9000 + "10000")


def leaves_of_only(fifths):
    """How many leaves the region of just these fractions has: one more than the pieces that are parted."""
    parted = set()
    for fifth in fifths:
        u, v, way = fifth.bottom - fifth.top, fifth.top, ""
        while u != v:
            parted.add(way)
            way, u, v = (way + "l", u - v, v) if u > v else (way + "r", u, v - u)
    return len(parted) + 1


class OperatorsTest(unittest.TestCase):
    def test_operators_against_the_least_tree(self):
        made = some_regions(Region, 5)
        made = made[:32:3] + made[32::5]
        for (one, model), (other, told) in itertools.product(made, made[::3]):
            for region, expected in ((one & other, model & told), (one | other, model | told),
                                     (one - other, model - told), (one ^ other, model ^ told)):
                check_same(self, str(region), models.text(models.least_tree(expected, 4)))

    def test_operators_give_whole_regions(self):
        made = some_regions(Region, 4)
        for (one, model), (other, told) in itertools.product(made[::7], made[::5]):
            check_region(self, one ^ other, model ^ told, 4)
            check_fractions(self, one - other, model - told, 9)

    def test_invert_and_mirrored(self):
        for region, model in some_regions(Region, 5):
            check_region(self, ~region, ~model, 5)
            check_region(self, region.mirrored(), model.mirrored(), 5)
            check_fractions(self, region.mirrored(), model.mirrored(), 9)
            check_same(self, [~~region == region, region.mirrored().mirrored() == region], [True, True])

    def test_in_place_the_name_is_bound_and_the_region_stays(self):
        low, high = Region.stretch(0, Ratio(1, 2)), Region.stretch(Ratio(1, 3), 1)
        kept = name = low
        name &= high
        check_same(self, [str(name), str(kept)], [str(low & high), str(low)])
        name |= Region.only(Ratio(1, 2))
        check_same(self, name == (low & high) | Region.only(Ratio(1, 2)), True)
        name -= Region.rational()
        check_same(self, name == (low & high) - Region.rational(), True)
        name ^= Region.every()
        check_same(self, name == ~((low & high) - Region.rational()), True)
        check_same(self, [str(kept), str(high), type(name)], ["0 11111 00000", "1 0 00000 11111 11111", Region])

    def test_order_and_equality(self):
        made = some_regions(Region, 4)
        for (one, model), (other, told) in itertools.product(made[::3], made[::4]):
            a, b = models.text(models.least_tree(model, 3)), models.text(models.least_tree(told, 3))
            within = models.text(models.least_tree(model - told, 3)) == "00000"
            around = models.text(models.least_tree(told - model, 3)) == "00000"
            check_same(self, [one == other, one != other], [a == b, a != b])
            check_same(self, [one <= other, one < other], [within, within and a != b])
            check_same(self, [one >= other, one > other], [around, around and a != b])

    def test_other_values_are_not_equal_and_not_in(self):
        for region in (Region.every(), Region.none(), Region.only(Ratio(1, 2))):
            for value in any_values():
                if not isinstance(value, Region):
                    check_same(self, [region == value, value == region, region != value], [False, False, True])
                if type(value) is not Ratio:
                    check_same(self, value in region, False)
        for value in (Ratio(0), Ratio(1), Ratio(-1, 2), Ratio(3, 2)):
            check_same(self, value in Region.every(), False)
        check_same(self, Region.every() == "11111", False)

    def test_far_fractions(self):
        piece = Piece(Ratio(1, 2), Ratio(3, 5))
        for truths in itertools.product((False, True), repeat=5):
            inside = Region.joined(False, Region.none(), Region.joined(
                False, Region.joined(False, Region.leaf(*truths), Region.none()), Region.none()))
            check_same(self, inside.truths_on(piece), truths)
            for at, spots in enumerate(([(1, 1)], [(LONG, 1), (2, 1)], [(1, LONG), (1, 2)], [(LONG, LONG + 1), (2, 3)])):
                for u, v in spots:
                    check_same(self, piece.ratio(u, v) in inside, truths[at])
        for fifth in far_fifths():
            check_same(self, [fifth in Region.every(), fifth in Region.none()], [True, False])
            for low, high in itertools.combinations(row_to(5), 2):
                check_same(self, fifth in Region.stretch(ratio_of(low), ratio_of(high)), low < exact(fifth) < high)
        check_same(self, [Ratio(1, LONG) in Region.leaf(False, True, False, False, False),
                          Ratio(LONG - 1, LONG) in Region.leaf(False, False, True, False, False),
                          Ratio(LONG, 2 * LONG + 1) in Region.beside(Ratio(1, 2), "left")], [True] * 3)


class AskingTest(unittest.TestCase):
    def test_truths_on_each_piece(self):
        pieces = all_pieces(7)
        for region, model in some_regions(Region, 4)[::2]:
            tree = models.least_tree(model, 3)
            parts = [models.piece(ends) for ends, _ in models.leaves(tree)]
            for piece in pieces:
                a, b, c, d = piece.left.top, piece.left.bottom, piece.right.top, piece.right.bottom
                inside = any(piece <= part for part in parts)
                expected = models.truths_of(model, (a, b, c, d)) if inside else None
                check_same(self, region.truths_on(piece), expected)

    def test_truths_on_far_pieces(self):
        region = Region.leaf(True, False, True, False, True)
        check_same(self, region.truths_on(Piece(0, Ratio(1, LONG))), (False, False, False, False, True))
        check_same(self, region.truths_on(piece=Piece(Ratio(LONG - 1, LONG), 1)), (True, False, True, False, True))
        region = Region.leaf(False, True, False, False, True)
        check_same(self, region.truths_on(Piece(0, Ratio(1, LONG))), (True, True, False, False, True))
        far = Piece(Ratio(LONG, 2 * LONG + 1), Ratio(1, 2))
        check_same(self, Region.beside(Ratio(1, 2), "left").truths_on(far), (True, False, True, False, False))
        deep = Region.stretch(Ratio(1, 201), 1)
        check_same(self, [deep.truths_on(Piece(0, Ratio(1, LONG))), deep.truths_on(Piece(0, Ratio(1, 200)))],
                   [(False,) * 5, None])

    def test_truths_on_refuses(self):
        for value in any_values():
            if not isinstance(value, Piece):
                check_raises(self, BadPiece("piece"), Region.every().truths_on, value)

    def test_listed(self):
        for region, model in some_regions(Region, 5)[::4]:
            for most in (1, 2, 3, 30):
                found = [one for one in row_to(most)[1:-1] if model.fits(one)]
                found = sorted(found, key=lambda one: (one.denominator, one))
                check_same(self, list(region.listed(most)), [ratio_of(one) for one in found])
        check_same(self, [list(Region.every().listed(1)), list(Region.none().listed(most=1000))], [[], []])
        check_same(self, [str(one) for one in Region.stretch(Ratio(198, 199), 1).listed(201)], ["199/200", "200/201"])

    def test_listed_refuses(self):
        for most in any_values() + [0, 1001, -5, 10 ** 39]:
            if type(most) is not int or not 1 <= most <= 1000:
                check_first_raises(self, BadNumber(most), Region.every().listed, most)

    def test_simplest_against_a_search(self):
        made = some_regions(Region, 4)
        for (one, model), (other, told) in itertools.product(made[::2], made[::7]):
            region, both = one - other, model - told
            found = [x for x in row_to(15)[1:-1] if both.fits(x)]
            if found:
                check_same(self, region.simplest(), ratio_of(min(found, key=lambda x: (x.denominator, x))))
            else:
                self.assertIsNone(region.simplest())
        for truths in itertools.product((False, True), repeat=4):
            found = [x for x in row_to(9)[1:-1] if models.m_leaf(*truths, True).fits(x)]
            expected = ratio_of(min(found, key=lambda x: (x.denominator, x))) if found else None
            check_same(self, Region.leaf(*truths, True).simplest(), expected)
        ways = ("", "l", "r", "lr", "rl", "lll", "rrr", "rrl")
        for truths, way in itertools.product(itertools.product((False, True), repeat=4), ways):
            region, model = Region.leaf(*truths, False), models.m_leaf(*truths, False)
            nothing, no_model = Region.none(), models.m_only()
            for turn in way:
                pair, told = (region, nothing), (model, no_model)
                region = Region.joined(False, *(pair if turn == "l" else pair[::-1]))
                model = models.m_joined(False, *(told if turn == "l" else told[::-1]))
            found = [x for x in row_to(20)[1:-1] if model.fits(x)]
            expected = ratio_of(min(found, key=lambda x: (x.denominator, x))) if found else None
            check_same(self, region.simplest(), expected)
        check_same(self, Region.leaf(False, False, False, True, False).simplest(), Ratio(2, 5))
        check_same(self, Region.leaf(False, True, True, False, False).simplest(), Ratio(1, 3))
        check_same(self, Region.only(Ratio(5, 7), Ratio(3, 7), Ratio(4, 7)).simplest(), Ratio(3, 7))

    def test_nothing_changes_a_region(self):
        region = Region.beside(Ratio(2, 5), "left")
        text = str(region)
        for call in (lambda: list(region.parts()), lambda: list(region.listed(50)), lambda: region & Region.every(),
                     lambda: ~region, region.mirrored, region.simplest, lambda: region.truths_on(Piece.whole())):
            call()
            check_same(self, str(region), text)


class TextTest(unittest.TestCase):
    def test_back_and_forth(self):
        for region, _ in some_regions(Region, 6):
            check_same(self, [Region.read(str(region)) == region, Region.read(text=str(region)) == region], [True, True])
        for many in (1, 2, 3, 50, 2000):
            check_same(self, str(Region.read(text_of_leaves(many))), text_of_leaves(many))

    def test_words_that_cannot_stand(self):
        told = {
            "": 0, " ": 0, "x": 0, "2": 0, "000000": 0, "0000": 0, "0000x": 0, "00 000": 0, "-": 0, "\n": 0,
            "00000\n": 0, "1111": 0, "11112": 0, "\u0661": 0, " 00000": 0, "00000 ": 1, "00000 0": 1, "00000 00000": 1,
            "0": 1, "1": 1, "0 ": 1, "0 x": 1, "0  00100 00000": 1, "0 00100": 2, "0 00100 ": 2, "0 00100 2": 2,
            "0 0": 2, "0 0 00100": 3, "0 0 00100 00000": 4, "0 00100 00000 ": 3, "0 00100 00000 1": 3,
            "0 00100 00000 00000": 3, "1 11110 11110 x": 3, "1 11110 x": 2, "0 10100": 2, "01": 0, "0\n00100 00000": 0,
        }
        for text, word in told.items():
            check_raises(self, BadText(0, word), Region.read, text)

    def test_what_is_no_string(self):
        for value in any_values():
            if not isinstance(value, str):
                check_raises(self, BadText(0, 0), Region.read, value)

    def test_trees_that_are_not_the_least(self):
        for truths in itertools.product("01", repeat=5):
            m, l, r, o, n = truths
            split = f"{m} {l}{l}{o}{o}{n} {r}{o}{r}{o}{n}"
            check_raises(self, BadText(0, 0), Region.read, split)
            check_raises(self, BadText(0, 0), Region.read, f"0 01010 {split}")
            check_raises(self, BadText(0, 0), Region.read, f"1 0 {split} 01010 00001")
            check_raises(self, BadText(0, 3), Region.read, f"{split} 0")
        check_raises(self, BadText(0, 0), Region.read, "1 1 11111 11111 11111")

    def test_all_short_texts(self):
        words = ["0", "1", "00000", "11111", "10100"]
        least = set()
        for one, other, truth in itertools.product(words[2:], words[2:], (False, True)):
            least.add(str(Region.joined(truth, Region.read(one), Region.read(other))))
        for text in map(" ".join, itertools.product(words, repeat=3)):
            if text.split(" ")[0] in ("0", "1") and set(text.split(" ")[1:]) <= set(words[2:]):
                if text in least:
                    check_same(self, str(Region.read(text)), text)
                else:
                    check_raises(self, BadText(0, 0), Region.read, text)


if __name__ == "__main__":
    unittest.main()
