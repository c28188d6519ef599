import itertools
import unittest
from fractions import Fraction
from math import gcd

from anyfifth.errors import BadFifth, BadNumber, BadPiece, BadRatio, BadText, BadTruth
from anyfifth.pieces import Piece, fractions_to, met, path, piece_at, pieces_to, ratio_by, simplest
from anyfifth.ratios import Ratio
from tests.support import (
    all_pieces, any_values, check_examples, check_raises, check_same, exact, ratio_of, row_to)

EXAMPLES = """
>>> from anyfifth.pieces import Piece, fractions_to, met, path, piece_at, pieces_to, ratio_by, simplest
>>> piece = Piece(half, Ratio(3, 5))
>>> [str(piece.middle), piece.reach, [str(one) for one in piece.halves], str(piece.ratio(2, 1)), piece.spot(Ratio(7, 12)), str(Piece.whole())]
['4/7', 7, ['1/2 4/7', '4/7 3/5'], '5/9', (1, 2), '0/1 1/1']
>>> [[piece.kind(Ratio(p, q)) for p, q in [(4, 7), (5, 9), (7, 12), (11, 19)]], half in piece, piece <= Piece.whole()]
[['middle', 'left', 'right', 'other'], False, True]
>>> [[str(one) for one in pieces_to(3)], [str(one) for one in fractions_to(4, backward=True)]]
[['0/1 1/3', '1/3 1/2', '1/2 2/3', '2/3 1/1'], ['3/4', '2/3', '1/2', '1/3', '1/4']]
>>> [str(simplest(Ratio(1, 3), Ratio(2, 5))), path(Ratio(5, 12)), path(half), path(Ratio(2, 3)), str(ratio_by(2, 2, 2))]
['3/8', (2, 2, 2), (2,), (1, 2), '5/12']
>>> [str(piece_at(Ratio(5, 12), 7)), piece_at(Ratio(2, 5), 7), str(met(18, piece)), met(6, piece), str(met(-14, piece))]
['2/5 3/7', None, '5/9', None, '4/7']
>>> Piece(0, Ratio(2, 3))
raises BadPiece('neighbours')
>>> piece.spot(half)
raises BadFifth(Ratio(1, 2))
"""

LONG = 10 ** 39 + 7
LONG_PIECE = Piece(Ratio(LONG - 1, LONG), 1)
FAR_PIECE = Piece(Ratio(0), Ratio(1, LONG))


class PieceTest(unittest.TestCase):
    def test_examples(self):
        names = {}
        exec("from anyfifth.ratios import Ratio\nhalf = Ratio(2, 4)", names)
        check_examples(self, EXAMPLES, names)

    def test_made_of_neighbours_alone(self):
        row = [ratio_of(one) for one in row_to(9)]
        for left, right in itertools.product(row, row):
            if left == 1:
                check_raises(self, BadPiece("left"), Piece, left, right)
            elif right == 0:
                check_raises(self, BadPiece("right"), Piece, left, right)
            elif left.bottom * right.top - left.top * right.bottom != 1:
                check_raises(self, BadPiece("neighbours"), Piece, left, right)
            else:
                piece = Piece(left, right)
                check_same(self, (piece.left, piece.right), (left, right))

    def test_made_of_integers_and_by_name(self):
        for piece in (Piece(0, 1), Piece(right=1, left=Ratio(0)), Piece(0, right=Ratio(1)), Piece.whole()):
            check_same(self, [piece.left, piece.right], [Ratio(0), Ratio(1)])

    def test_made_of_any_values(self):
        for left, right in itertools.product(any_values(), any_values()):
            left_fits = Ratio.is_number(left) and 0 <= left < 1
            right_fits = Ratio.is_number(right) and 0 < right <= 1
            if not left_fits:
                check_raises(self, BadPiece("left"), Piece, left, right)
            elif not right_fits:
                check_raises(self, BadPiece("right"), Piece, left, right)
            elif not (left < right and (left == 0 or right == 1)):
                check_raises(self, BadPiece("neighbours"), Piece, left, right)
            else:
                check_same(self, Piece(left, right).right, Ratio.of(right))

    def test_neighbours_the_other_way_about_are_refused(self):
        check_raises(self, BadPiece("neighbours"), Piece, Ratio(3, 5), Ratio(1, 2))
        check_raises(self, BadPiece("neighbours"), Piece, Ratio(1, 2), Ratio(1, 2))
        check_raises(self, BadPiece("left"), Piece, 1, 1)
        check_raises(self, BadPiece("left"), Piece, Ratio(-1, 2), 0)
        check_raises(self, BadPiece("right"), Piece, 0, Ratio(1 + LONG, LONG))

    def test_middle_halves_and_reach(self):
        for piece in all_pieces(8) + [LONG_PIECE, FAR_PIECE]:
            a, b, c, d = piece.left.top, piece.left.bottom, piece.right.top, piece.right.bottom
            check_same(self, piece.middle, Ratio(a + c, b + d))
            check_same(self, piece.halves, (Piece(piece.left, piece.middle), Piece(piece.middle, piece.right)))
            check_same(self, piece.reach, b + d)

    def test_reach_is_the_least_bottom(self):
        for piece in all_pieces(6):
            inside = [one.denominator for one in row_to(12) if exact(piece.left) < one < exact(piece.right)]
            self.assertEqual(piece.reach, min(inside))

    def test_spot_and_ratio_back_and_forth(self):
        row = row_to(30)
        for piece in all_pieces(5):
            left, right = piece.left, piece.right
            spots = []
            for one in row:
                if exact(left) < one < exact(right):
                    u, v = piece.spot(ratio_of(one))
                    check_same(self, (type(u), type(v), u > 0, v > 0, gcd(u, v)), (int, int, True, True, 1))
                    self.assertEqual(one.numerator, u * left.top + v * right.top)
                    self.assertEqual(one.denominator, u * left.bottom + v * right.bottom)
                    check_same(self, piece.ratio(u, v), ratio_of(one))
                    spots.append((u, v))
                else:
                    check_raises(self, BadFifth(ratio_of(one)), piece.spot, ratio_of(one))
                    check_raises(self, BadFifth(ratio_of(one)), piece.kind, ratio_of(one))
            self.assertEqual(len(set(spots)), len(spots))

    def test_spot_and_ratio_with_long_numbers(self):
        for piece in (Piece.whole(), Piece(Ratio(1, 2), Ratio(3, 5)), LONG_PIECE, FAR_PIECE):
            for u, v in ((1, 1), (LONG, 1), (1, LONG), (LONG, LONG + 1), (10 ** 40 - 1, 10 ** 40 - 2)):
                fifth = piece.ratio(u, v)
                check_same(self, piece.spot(fifth), (u, v))
                check_same(self, fifth in piece, True)
                check_same(self, [piece.ratio(v=v, u=u), piece.spot(fifth=fifth)], [fifth, (u, v)])

    def test_spots_in_the_halves(self):
        piece = Piece(Ratio(1, 2), Ratio(3, 5))
        left, right = piece.halves
        for u, v in itertools.product(range(1, 20), range(1, 20)):
            if gcd(u, v) == 1 and u > v:
                check_same(self, left.spot(piece.ratio(u, v)), (u - v, v))
            if gcd(u, v) == 1 and v > u:
                check_same(self, right.spot(piece.ratio(u, v)), (u, v - u))

    def test_ratio_refuses(self):
        piece = Piece(Ratio(1, 2), Ratio(3, 5))
        for u, v in itertools.product(any_values(), any_values()):
            if type(u) is not int or u < 1:
                check_raises(self, BadNumber(u), piece.ratio, u, v)
            elif type(v) is not int or v < 1 or gcd(u, v) > 1:
                check_raises(self, BadNumber(v), piece.ratio, u, v)
            else:
                check_same(self, piece.spot(piece.ratio(u, v)), (u, v))
        check_raises(self, BadNumber(4), piece.ratio, 6, 4)
        check_raises(self, BadNumber(0), piece.ratio, 0, 0)

    def test_kinds(self):
        for piece in all_pieces(4) + [LONG_PIECE, FAR_PIECE]:
            for u, v in itertools.product((1, 2, 3, 5, LONG), (1, 2, 3, 7, LONG)):
                if gcd(u, v) == 1:
                    kind = ("middle" if u == v else "left" if v == 1 else "right" if u == 1 else "other")
                    check_same(self, piece.kind(piece.ratio(u, v)), kind)
                    check_same(self, piece.kind(fifth=piece.ratio(u, v)), kind)

    def test_the_kinds_left_and_right_are_the_further_neighbours_of_the_ends(self):
        for piece in all_pieces(4):
            for fifth in fractions_to(25):
                if fifth in piece and fifth != piece.middle:
                    by_left = piece.left.bottom * fifth.top - piece.left.top * fifth.bottom == 1
                    by_right = fifth.bottom * piece.right.top - fifth.top * piece.right.bottom == 1
                    kind = "left" if by_left else "right" if by_right else "other"
                    check_same(self, piece.kind(fifth), kind)

    def test_spot_kind_and_in_with_any_values(self):
        for piece in (Piece(Ratio(1, 2), Ratio(3, 5)), LONG_PIECE):
            for value in any_values():
                check_raises(self, BadFifth(value), piece.spot, value)
                check_raises(self, BadFifth(value), piece.kind, value)
                check_same(self, value in piece, False)
        for value in any_values():
            check_same(self, value in Piece.whole(), type(value) is Ratio and 0 < value < 1)

    def test_in(self):
        for piece in all_pieces(5):
            for one in row_to(12):
                check_same(self, ratio_of(one) in piece, exact(piece.left) < one < exact(piece.right))

    def test_lies_in(self):
        pieces = all_pieces(7)
        for one, other in itertools.product(pieces, pieces):
            inside = [fifth for fifth in fractions_to(20) if fifth in one]
            check_same(self, one <= other, all(fifth in other for fifth in inside))

    def test_equal(self):
        pieces = all_pieces(6)
        for (at, one), (place, other) in itertools.product(enumerate(pieces), enumerate(pieces)):
            check_same(self, [one == other, one != other], [at == place, at != place])
        check_same(self, Piece(0, 1) == Piece(Ratio(0), Ratio(1)), True)
        for value in any_values():
            if not isinstance(value, Piece):
                check_same(self, [Piece.whole() == value, value == Piece.whole()], [False, False])
        check_same(self, Piece.whole() == (Ratio(0), Ratio(1)), False)

    def test_text_back_and_forth(self):
        for piece in all_pieces(8) + [LONG_PIECE, FAR_PIECE]:
            text = f"{piece.left.top}/{piece.left.bottom} {piece.right.top}/{piece.right.bottom}"
            check_same(self, [str(piece), Piece.read(text), Piece.read(text=text)], [text, piece, piece])

    def test_texts_of_no_piece(self):
        told = {
            "": 0, " ": 0, "0": 0, "0 1": 0, "0/2 1/1": 0, "1/1 1/1": 0, "-1/2 1/1": 0, "3/2 1/1": 0, "2/4 3/5": 0,
            "a": 0, " 0/1 1/1": 0, "0/1\n1/1": 0, "\n": 0, "a b c": 0, "1/1": 0, "-0/1 1/1": 0,
            "0/1": 1, "1/2": 1, "0/1 ": 1, "0/1  1/1": 1, "0/1 1": 1, "0/1 0/1": 1, "0/1 3/2": 1, "0/1 2/2": 1,
            "0/1 -1/1": 1, "1/2 x y": 1, "0/1 1/1\n": 1, "0/1 01/1": 1, "0/1 \n": 1, "0/1 0/1 1/1": 1,
            "0/1 1/1 ": 2, "0/1 1/1 1/1": 2, "0/1 1/1 x y": 2, "0/1 2/3 x": 2, "0/1 1/1 \n": 2,
            "0/1 2/3": 1, "1/2 1/2": 1, "3/5 1/2": 1, "1/3 2/3": 1,
        }
        for text, word in told.items():
            check_raises(self, BadText(0, word), Piece.read, text)
        for value in any_values():
            if not isinstance(value, str):
                check_raises(self, BadText(0, 0), Piece.read, value)

    def test_texts_of_60_and_of_61_figures(self):
        most = 10 ** 60 - 1
        text = f"0/1 1/{most}"
        check_same(self, str(Piece.read(text)), text)
        check_same(self, str(Piece.read(f"{most - 1}/{most} 1/1")), f"{most - 1}/{most} 1/1")
        check_raises(self, BadText(0, 1), Piece.read, f"0/1 1/{most + 1}")
        check_raises(self, BadText(0, 0), Piece.read, f"{most}/{most + 1} 1/1")

    def test_no_piece_changes(self):
        piece = Piece(Ratio(1, 2), Ratio(3, 5))
        piece.halves, piece.middle, piece.ratio(2, 1), piece.kind(Ratio(4, 7)), str(piece), piece <= Piece.whole()
        check_same(self, str(piece), "1/2 3/5")

    def test_each_method_stands_in_the_class(self):
        for name in ("whole", "middle", "halves", "reach", "ratio", "spot", "kind", "read", "__contains__", "__le__",
                     "__eq__", "__str__"):
            self.assertIn(name, vars(Piece))
        for one in (Piece, fractions_to, pieces_to, simplest, path, ratio_by, piece_at, met):
            self.assertEqual(one.__module__, "anyfifth.pieces")


class RowTest(unittest.TestCase):
    def test_fractions_both_ways(self):
        for most in range(1, 31):
            row = [ratio_of(one) for one in row_to(most)][1:-1]
            check_same(self, list(fractions_to(most)), row)
            check_same(self, list(fractions_to(most=most, backward=False)), row)
            check_same(self, list(fractions_to(most, backward=True)), row[::-1])

    def test_pieces_both_ways(self):
        for most in range(1, 31):
            row = [ratio_of(one) for one in row_to(most)]
            pieces = [Piece(one, other) for one, other in zip(row, row[1:])]
            check_same(self, list(pieces_to(most)), pieces)
            check_same(self, list(pieces_to(most=most, backward=False)), pieces)
            check_same(self, list(pieces_to(most, backward=True)), pieces[::-1])

    def test_first_items_at_10000(self):
        for backward in (False, True):
            fractions, pieces = fractions_to(10000, backward=backward), pieces_to(10000, backward=backward)
            last = Ratio(1 if backward else 0)
            for _ in range(6000):
                fifth, piece = next(fractions), next(pieces)
                check_same(self, piece, Piece(fifth, last) if backward else Piece(last, fifth))
                self.assertTrue(piece.reach > 10000 >= fifth.bottom)
                last = fifth
        check_same(self, [str(next(fractions_to(10000))), str(next(fractions_to(10000, backward=True)))],
                   ["1/10000", "9999/10000"])

    def test_refused_when_the_first_item_is_requested(self):
        def first(call, *given, **named):
            return next(call(*given, **named))

        for call in (fractions_to, pieces_to):
            for most in any_values() + [10001, -5, 10 ** 40]:
                for backward in any_values():
                    if type(most) is not int or not 1 <= most <= 10000:
                        check_raises(self, BadNumber(most), first, call, most, backward=backward)
                    elif type(backward) is not bool:
                        check_raises(self, BadTruth(backward), first, call, most, backward=backward)
            with self.assertRaises(TypeError):
                first(call, 3, True)
            check_raises(self, BadNumber(0), first, call, 0)


class FunctionsTest(unittest.TestCase):
    def test_simplest_against_a_search(self):
        row = row_to(11)
        for low, high in itertools.combinations(row, 2):
            bottom = 2
            while not any(low < Fraction(top, bottom) < high for top in range(bottom)):
                bottom += 1
            found = [top for top in range(bottom) if low < Fraction(top, bottom) < high]
            expected = Ratio(found[0], bottom)
            self.assertEqual(len(found), 1)
            check_same(self, simplest(ratio_of(low), ratio_of(high)), expected)
            check_same(self, simplest(high=ratio_of(high), low=ratio_of(low)), expected)

    def test_simplest_with_integers_and_long_numbers(self):
        check_same(self, [simplest(0, 1), simplest(0, Ratio(1)), simplest(Ratio(1, 2), 1)],
                   [Ratio(1, 2), Ratio(1, 2), Ratio(2, 3)])
        check_same(self, simplest(0, Ratio(1, LONG)), Ratio(1, LONG + 1))
        check_same(self, simplest(Ratio(LONG - 1, LONG), 1), Ratio(LONG, LONG + 1))
        for piece in (LONG_PIECE, FAR_PIECE, piece_at(Ratio(10 ** 39, 3 * 10 ** 39 + 1), 10 ** 38)):
            check_same(self, simplest(piece.left, piece.right), piece.middle)
        check_same(self, simplest(Ratio(LONG, 2 * LONG + 1), Ratio(LONG, 2 * LONG - 1)), Ratio(1, 2))

    def test_simplest_refuses(self):
        for low, high in itertools.product(any_values(), any_values()):
            if not Ratio.is_number(low) or not 0 <= low <= 1:
                check_raises(self, BadRatio("low"), simplest, low, high)
            elif not Ratio.is_number(high) or not 0 <= high <= 1 or not low < high:
                check_raises(self, BadRatio("high"), simplest, low, high)
            else:
                check_same(self, low < simplest(low, high) < high, True)

    def test_path_and_ratio_by_back_and_forth(self):
        for fifth in fractions_to(60):
            quotients = path(fifth)
            self.assertIs(type(quotients), tuple)
            self.assertTrue(all(type(one) is int and one >= 1 for one in quotients) and quotients[-1] >= 2)
            value = Fraction(0)
            for one in quotients[::-1]:
                value = 1 / (one + value)
            check_same(self, [ratio_of(value), ratio_by(*quotients)], [fifth, fifth])
            check_same(self, path(fifth=fifth), quotients)
        for many in range(1, 5):
            for quotients in itertools.product((1, 2, 3, 7), repeat=many):
                if quotients[-1] > 1:
                    check_same(self, path(ratio_by(*quotients)), quotients)
        long = (LONG, 1, 10 ** 40 - 1, 3, 10 ** 59)
        check_same(self, path(ratio_by(*long)), long)

    def test_path_refuses(self):
        for value in any_values() + [1, Ratio(1), Ratio(7, 2)]:
            if not Ratio.is_fifth(value):
                check_raises(self, BadFifth(value), path, value)

    def test_ratio_by_refuses(self):
        check_raises(self, BadNumber(None), ratio_by)
        check_raises(self, BadNumber(1), ratio_by, 1)
        check_raises(self, BadNumber(1), ratio_by, 5, 2, 1)
        check_raises(self, BadNumber(0), ratio_by, 2, 0, "a", 1)
        check_raises(self, BadNumber(True), ratio_by, True)
        for value in any_values():
            if type(value) is not int or value < 1:
                check_raises(self, BadNumber(value), ratio_by, value)
                check_raises(self, BadNumber(value), ratio_by, 2, value, 1)
                check_raises(self, BadNumber(value), ratio_by, 2, value, -1)

    def test_piece_at_against_pieces_to(self):
        for most in range(1, 13):
            pieces = list(pieces_to(most))
            for fifth in fractions_to(25):
                around = [piece for piece in pieces if fifth in piece]
                expected = around[0] if around else None
                self.assertEqual(len(around), 1 if fifth.bottom > most else 0)
                check_same(self, piece_at(fifth, most), expected)
                check_same(self, piece_at(most=most, fifth=fifth), expected)

    def test_piece_at_with_long_numbers(self):
        fifths = [Ratio(1, 10 ** 40 - 1), Ratio(10 ** 40 - 2, 10 ** 40 - 1), Ratio(10 ** 39, 10 ** 40 - 1),
                  Ratio(5 * 10 ** 39 - 1, 10 ** 40 - 1), Ratio(10 ** 39 + 7, 3 * 10 ** 39 + 4)]
        bounds = [1, 2, 3, 10, 10 ** 20, 10 ** 38, 10 ** 39, 3 * 10 ** 39, 10 ** 40 - 2, 10 ** 40 - 1]
        for fifth, most in itertools.product(fifths, bounds):
            found = piece_at(fifth, most)
            if fifth.bottom <= most:
                self.assertIsNone(found)
            else:
                check_same(self, [fifth in found, found.reach > most], [True, True])
                check_same(self, [found.left.bottom <= most, found.right.bottom <= most], [True, True])
        check_same(self, piece_at(Ratio(1, 10 ** 40 - 1), 10 ** 40 - 2), Piece(0, Ratio(1, 10 ** 40 - 2)))

    def test_piece_at_refuses(self):
        bounds = [10 ** 40, 10 ** 41, -(10 ** 40)]
        for fifth, most in itertools.product(any_values(), any_values() + bounds):
            if not Ratio.is_fifth(fifth):
                check_raises(self, BadFifth(fifth), piece_at, fifth, most)
            elif type(most) is not int or not 1 <= most < 10 ** 40:
                check_raises(self, BadNumber(most), piece_at, fifth, most)

    def test_met_against_a_search(self):
        pieces = all_pieces(6) + [Piece(0, Ratio(1, 95)), Piece(Ratio(47, 95), Ratio(1, 2)), LONG_PIECE, FAR_PIECE]
        for piece, number in itertools.product(pieces, range(-96, 97)):
            expected = None
            for bottom in range(2, abs(number) + 1):
                inside = [top for top in range(1, bottom) if Ratio(top, bottom) in piece]
                if number % bottom == 0 and inside:
                    expected = Ratio(inside[0], bottom)
                    break
            check_same(self, met(number, piece), expected)
        check_same(self, met(piece=Piece.whole(), number=9), Ratio(1, 3))

    def test_met_refuses(self):
        for number, piece in itertools.product(any_values() + [97, -97], any_values()):
            if type(number) is not int or not -96 <= number <= 96:
                check_raises(self, BadNumber(number), met, number, piece)
            elif not isinstance(piece, Piece):
                check_raises(self, BadPiece("piece"), met, number, piece)
        check_same(self, [met(0, Piece.whole()), met(1, Piece.whole()), met(-1, Piece.whole())], [None] * 3)


if __name__ == "__main__":
    unittest.main()
