import itertools
import unittest
from fractions import Fraction

from anyfifth.errors import BadRatio, BadText, NoDivisor
from anyfifth.pieces import Piece
from anyfifth.ratios import Ratio
from tests.support import any_values, check_examples, check_raises, check_same, exact

EXAMPLES = """
>>> from anyfifth.ratios import Ratio
>>> half = Ratio(2, 4)
>>> [str(half), str(1 - half), str(half.over(3)), 3 // half, str(Ratio(7, 2) % 2), str(-half % 1), str(abs(-half) + 1)]
['1/2', '1/2', '1/6', 6, '3/2', '1/2', '3/2']
>>> [half < 1, half == Ratio(-1, -2), Ratio(4, 2) == 2, Ratio(1) == True, Ratio.is_fifth(half), Ratio.is_fifth(1), str(Ratio.total([half, 3]))]
[True, True, True, False, True, False, '7/2']
>>> Ratio("1", 0)
raises BadRatio('top')
>>> Ratio(1, 0)
raises NoDivisor()
>>> Ratio.read("2/4")
raises BadText(0, 0)
"""

SMALL = [Ratio(top, bottom) for top in range(-4, 5) for bottom in range(1, 5)]
LONG = [
    Ratio(10 ** 40 - 1, 10 ** 40 - 3), Ratio(1 - 10 ** 40, 7), Ratio(1, 10 ** 39 + 1), Ratio(-1, 10 ** 39),
    Ratio(6 * 10 ** 38, 9 * 10 ** 38 + 3),
]
WHOLE = [-7, -2, -1, 0, 1, 2, 5, 10 ** 40 - 1, 1 - 10 ** 40]
NUMBERS = SMALL + LONG + WHOLE


class RatioTest(unittest.TestCase):
    def check_ratio(self, value, expected):
        self.assertIs(type(value), Ratio)
        check_same(self, (value.top, value.bottom), (expected.numerator, expected.denominator))

    def test_examples(self):
        check_examples(self, EXAMPLES, {})

    def test_lowest_terms(self):
        sizes = [1, 2, 3, 4, 6, 12, 97, 10 ** 20, 6 ** 30, 10 ** 40 - 1, 2 ** 130]
        for top, bottom in itertools.product(sizes + [0], sizes):
            for a, b in itertools.product((top, -top), (bottom, -bottom)):
                self.check_ratio(Ratio(a, b), Fraction(a, b))

    def test_made_by_position_and_by_name(self):
        for value in (Ratio(3), Ratio(top=3), Ratio(6, bottom=2), Ratio(bottom=1, top=3)):
            check_same(self, (value.top, value.bottom), (3, 1))

    def test_made_of_any_values(self):
        for top, bottom in itertools.product(any_values(), any_values()):
            if type(top) is not int:
                check_raises(self, BadRatio("top"), Ratio, top, bottom)
            elif type(bottom) is not int:
                check_raises(self, BadRatio("bottom"), Ratio, top, bottom)
            elif bottom == 0:
                check_raises(self, NoDivisor(), Ratio, top, bottom)
            else:
                self.check_ratio(Ratio(top, bottom), Fraction(top, bottom))
        for top in any_values():
            if type(top) is not int:
                check_raises(self, BadRatio("top"), Ratio, top)

    def test_is_whole(self):
        check_same(self, [Ratio(4, 2).is_whole, Ratio(0).is_whole, Ratio(-3).is_whole], [True] * 3)
        check_same(self, [Ratio(1, 2).is_whole, Ratio(-4, 3).is_whole], [False] * 2)

    def test_equal_to_numbers_of_the_same_value_alone(self):
        for one, other in itertools.product(NUMBERS, NUMBERS):
            check_same(self, one == other, exact(one) == exact(other))
            check_same(self, one != other, exact(one) != exact(other))
        for one in (Ratio(0), Ratio(1), Ratio(1, 2), Ratio(2)):
            for other in any_values():
                if not Ratio.is_number(other):
                    check_same(self, [one == other, other == one, one != other], [False, False, True])
        check_same(self, [Ratio(1) == True, True == Ratio(1), Ratio(0) == False], [False] * 3)
        check_same(self, [Ratio(1, 2) == "1/2", Ratio(1, 2) == (1, 2), Ratio(0) == None], [False] * 3)
        check_same(self, [[Ratio(2), 1] == [2, Ratio(1)], Ratio(1, 2) in (0, Ratio(2, 4))], [True] * 2)

    def test_sums_and_products(self):
        for one, other in itertools.product(NUMBERS, NUMBERS):
            if isinstance(one, Ratio) or isinstance(other, Ratio):
                self.check_ratio(one + other, exact(one) + exact(other))
                self.check_ratio(one - other, exact(one) - exact(other))
                self.check_ratio(one * other, exact(one) * exact(other))

    def test_quotients_and_rests(self):
        for one, other in itertools.product(NUMBERS, NUMBERS):
            if not isinstance(one, Ratio) and not isinstance(other, Ratio):
                continue
            if exact(other) == 0:
                check_raises(self, NoDivisor(), lambda: one // other)
                check_raises(self, NoDivisor(), lambda: one % other)
            else:
                check_same(self, one // other, exact(one) // exact(other))
                self.check_ratio(one % other, exact(one) - (exact(one) // exact(other)) * exact(other))

    def test_over(self):
        for one, other in itertools.product(SMALL + LONG, NUMBERS):
            if exact(other) == 0:
                check_raises(self, NoDivisor(), one.over, other)
            else:
                self.check_ratio(one.over(other), exact(one) / exact(other))
        self.check_ratio(Ratio(1).over(number=Ratio(-2, 3)), Fraction(-3, 2))

    def test_in_place_the_name_is_bound_and_the_ratio_stays(self):
        kept = name = Ratio(7, 2)
        name += 1
        self.check_ratio(name, Fraction(9, 2))
        name -= Ratio(1, 2)
        self.check_ratio(name, Fraction(4))
        name *= Ratio(5, 8)
        self.check_ratio(name, Fraction(5, 2))
        name %= 2
        self.check_ratio(name, Fraction(1, 2))
        name //= Ratio(1, 7)
        check_same(self, name, 3)
        name += Ratio(1, 3)
        self.check_ratio(name, Fraction(10, 3))
        self.check_ratio(kept, Fraction(7, 2))
        check_same(self, type(kept), type(name))

    def test_a_refused_divisor_in_place_leaves_the_name(self):
        name = Ratio(7, 2)
        with self.assertRaises(NoDivisor):
            name //= 0
        with self.assertRaises(NoDivisor):
            name %= Ratio(0)
        self.check_ratio(name, Fraction(7, 2))

    def test_signs(self):
        for one in SMALL + LONG:
            self.check_ratio(-one, -exact(one))
            self.check_ratio(abs(one), abs(exact(one)))
            check_same(self, bool(one), exact(one) != 0)

    def test_order(self):
        for one, other in itertools.product(NUMBERS, NUMBERS):
            found = [one < other, one <= other, one > other, one >= other]
            a, b = exact(one), exact(other)
            check_same(self, found, [a < b, a <= b, a > b, a >= b])

    def test_is_number_and_is_fifth(self):
        for value in any_values() + NUMBERS:
            number = type(value) in (int, Ratio)
            check_same(self, Ratio.is_number(value), number)
            check_same(self, Ratio.is_fifth(value), type(value) is Ratio and 0 < exact(value) < 1)
        check_same(self, [Ratio.is_number(value=True), Ratio.is_fifth(value=Ratio(1, 2))], [False, True])

    def test_of(self):
        for value in any_values() + NUMBERS:
            if Ratio.is_number(value):
                self.check_ratio(Ratio.of(value), exact(value))
            else:
                check_raises(self, BadRatio("number"), Ratio.of, value)
        self.check_ratio(Ratio.of(number=3), Fraction(3))

    def test_total(self):
        for many in range(len(NUMBERS) + 1):
            numbers = NUMBERS[:many]
            kept = list(numbers)
            expected = sum([exact(one) for one in numbers], Fraction(0))
            self.check_ratio(Ratio.total(numbers), expected)
            self.check_ratio(Ratio.total(numbers=tuple(numbers)), expected)
            check_same(self, numbers, kept)

    def test_total_of_long_lists(self):
        numbers = [Ratio(1, 10 ** 30 + k) for k in range(100)]
        self.check_ratio(Ratio.total(numbers), sum([exact(one) for one in numbers]))

    def test_total_of_what_is_no_such_list(self):
        for value in any_values():
            if not isinstance(value, (list, tuple)):
                check_raises(self, BadRatio("numbers"), Ratio.total, value)
        for part in any_values():
            if not Ratio.is_number(part):
                check_raises(self, BadRatio("numbers"), Ratio.total, [part])
                check_raises(self, BadRatio("numbers"), Ratio.total, (1, Ratio(1, 2), part))
                check_raises(self, BadRatio("numbers"), Ratio.total, [part, 1])

    def test_text_back_and_forth(self):
        check_same(self, [str(Ratio(-6, 4)), str(Ratio(0, 5)), str(Ratio(4))], ["-3/2", "0/1", "4/1"])
        for one in SMALL + LONG:
            self.check_ratio(Ratio.read(str(one)), exact(one))
            self.assertEqual(str(one), f"{one.top}/{one.bottom}")
        self.check_ratio(Ratio.read(text="1/2"), Fraction(1, 2))

    def test_text_of_any_size(self):
        long = Ratio(10 ** 5000, 10 ** 4999 + 1)
        self.assertEqual(str(long), "1" + "0" * 5000 + "/1" + "0" * 4998 + "1")
        check_raises(self, BadText(0, 0), Ratio.read, str(long))

    def test_parts_of_60_and_of_61_figures(self):
        most = 10 ** 60 - 1
        for top, bottom in ((most, 1), (-most, 1), (1, most), (most, most - 1), (-most, most - 1)):
            self.check_ratio(Ratio.read(f"{top}/{bottom}"), Fraction(top, bottom))
        for text in (f"{most + 1}/1", f"{-most - 1}/1", f"1/{most + 1}", f"0{most}/1", f"{most + 1}/{most}"):
            check_raises(self, BadText(0, 0), Ratio.read, text)

    def test_texts_of_no_ratio(self):
        texts = ["3", "+1/2", "01/2", "-0/1", "1/-2", " 1/2", "", "/", "1/", "/2", "1/0", "0/0", "0/2", "2/4", "4/2",
                 "1/02", "-01/2", "00/1", "--1/2", "1//2", "1/2/3", "1/2 ", "1 /2", "1/2\n", "\n1/2", "1/+2", "1.0/2",
                 "1_0/3", "1/1_0", "a/b", "0x1/2", "-/2", "0/-1", "1,2", "1/2 2/3"]
        for text in texts:
            check_raises(self, BadText(0, 0), Ratio.read, text)
        for value in any_values():
            if value != "1/2" or not isinstance(value, str):
                check_raises(self, BadText(0, 0), Ratio.read, value)

    def test_each_method_stands_in_the_class(self):
        for name in ("is_whole", "over", "is_number", "is_fifth", "of", "total", "read", "__str__", "__eq__", "__bool__"):
            self.assertIn(name, vars(Ratio))
        self.assertEqual(Ratio.__module__, "anyfifth.ratios")

    def test_other_objects_are_not_equal(self):
        check_same(self, [Ratio(1, 2) == Piece.whole(), Piece.whole() == Ratio(1, 2)], [False, False])


if __name__ == "__main__":
    unittest.main()
