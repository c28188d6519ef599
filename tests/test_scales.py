import itertools
import unittest

from anyfifth.errors import BadFifth, BadNumber, BadPiece, BadScale, BadText, Meets, TooMany
from anyfifth.pieces import Piece
from anyfifth.ratios import Ratio
from anyfifth.regions import Region
from anyfifth.rings import Ring
from anyfifth.scales import Scale
from anyfifth.tones import Tone
from tests.models import Model, check_region
from tests.support import (
    all_pieces, any_values, check_examples, check_quick, check_raises, check_same, exact, fifths_to, key_of)

EXAMPLES = """
>>> from anyfifth.scales import Scale
>>> scale = Scale(0, 7, 2)
>>> high = Piece(Ratio(4, 7), Ratio(3, 5))
>>> [scale(Ratio(7, 12)), scale.groups(Ratio(2, 5)), scale.ordered(high), [(str(tone), many) for tone, many in scale.steps(high)]]
[(0, 1, 2), ((0,), (7, 2)), (0, 7, 2), [('3,-5', 1), ('2,-2', 1), ('-4,7', 1)]]
>>> [Ratio(2, 5) in scale.apart(), Ratio(7, 12) in scale.order_region((7, 2, 0)), str(scale + 2), str(-scale), list(scale.cut(1, 3))]
[False, True, '2 9 4', '0 -7 -2', [7, 2]]
>>> scale.ordered(Piece.whole())
raises Meets(0, 2, Ratio(1, 2))
>>> Scale(3, 13, 3)
raises BadScale(1)
"""

LONG = 10 ** 39 + 7
FAR = Piece(Ratio(LONG - 1, LONG), 1)
ROWS = [(), (0,), (5,), (-12,), (12, -12), (0, 7, 2), (3, 1, -4), (-1, 0, 1, 2), (5, 0, 3, -2, 9), (0, 12, 6),
        (2, 9, 4, 11, 6, 1, 8), (-12, 12, -11, 11, -10, 10, 0, 1, 2, 3, 5, 7, -7, -3, 8, 4)]
FULL = ROWS[-1]


def no_index(value, many):
    return type(value) is not int or not 0 <= value < many


class MakingTest(unittest.TestCase):
    def test_examples(self):
        names = {}
        exec("from anyfifth.ratios import Ratio\nfrom anyfifth.pieces import Piece", names)
        check_examples(self, EXAMPLES, names)

    def test_numbers(self):
        for row in ROWS:
            scale = Scale(*row)
            check_same(self, [scale.numbers, list(scale), list(scale.backward()), len(scale)],
                       [row, list(row), list(row[::-1]), len(row)])
            check_same(self, [scale[k] for k in range(len(row))], list(row))
            for value in any_values() + list(range(-14, 15)):
                check_same(self, value in scale, type(value) is int and value in row)
        check_same(self, Scale.MOST, 16)

    def test_made_of_any_values(self):
        for value in any_values() + [13, -13]:
            if type(value) is not int or not -12 <= value <= 12:
                check_raises(self, BadScale(0), Scale, value)
                check_raises(self, BadScale(2), Scale, 5, 0, value, 5, "x")
        check_raises(self, BadScale(1), Scale, 1, True)
        check_raises(self, BadScale(1), Scale, 3, 3, 99)
        check_raises(self, BadScale(3), Scale, 3, 0, 1, 3)
        check_same(self, [len(Scale(12, -12)), len(Scale())], [2, 0])

    def test_16_and_17_notes(self):
        many = list(range(-12, 5))
        check_same(self, len(Scale(*many[:16])), 16)
        check_raises(self, TooMany("notes", 16), Scale, *many)
        check_raises(self, BadScale(17), Scale, *many, 4)
        check_raises(self, BadScale(16), Scale, *many[:16], 13)
        check_raises(self, TooMany("notes", 16), Scale, *range(-12, 13))

    def test_equal(self):
        for row, other in itertools.product(ROWS, ROWS):
            check_same(self, [Scale(*row) == Scale(*other), Scale(*row) != Scale(*other)], [row == other, row != other])
        check_same(self, [Scale(0, 1) == Scale(1, 0), Scale(0) == Scale(0, 1)], [False, False])
        for value in any_values() + [(0, 7)]:
            if not isinstance(value, Scale):
                check_same(self, [Scale(0, 7) == value, value == Scale(0, 7), Scale() == value], [False] * 3)

    def test_each_method_stands_in_the_class(self):
        for name in ("numbers", "backward", "drop", "put", "cut", "twin", "groups", "ordered", "steps", "apart",
                     "order_region", "read", "__len__", "__contains__", "__iter__", "__getitem__", "__setitem__",
                     "__iadd__", "__add__", "__neg__", "__call__", "__eq__", "__str__"):
            self.assertIn(name, vars(Scale))
        self.assertEqual(Scale.__module__, "anyfifth.scales")


class ChangingTest(unittest.TestCase):
    def check_refused(self, scale, error, call, *given):
        """The call raises this error, and changes nothing."""
        before = scale.numbers
        check_raises(self, error, call, *given)
        check_same(self, [scale.numbers, list(scale)], [before, list(before)])

    def test_getting(self):
        scale = Scale(0, 7, 2)
        for value in any_values() + [3, -1, LONG]:
            if no_index(value, 3):
                self.check_refused(scale, BadScale(value), lambda: scale[value])
        check_raises(self, BadScale(0), lambda: Scale()[0])

    def test_setting(self):
        scale = Scale(0, 7, 2)
        scale[1] = -12
        check_same(self, scale.numbers, (0, -12, 2))
        scale[0] = 0
        scale[2] = 7
        scale[0] = 12
        check_same(self, scale.numbers, (12, -12, 7))
        alone = Scale(4)
        alone[0] = 5
        check_same(self, alone.numbers, (5,))

    def test_setting_refuses(self):
        scale = Scale(0, 7, 2)

        def put(k, number):
            scale[k] = number
        for k, number in itertools.product(any_values() + [3, -1], any_values() + [13, -13, 7, 2]):
            if no_index(k, 3):
                self.check_refused(scale, BadScale(k), put, k, number)
            elif type(number) is not int or not -12 <= number <= 12:
                self.check_refused(scale, BadNumber(number), put, k, number)
            elif number in scale.numbers[:k] + scale.numbers[k + 1:]:
                self.check_refused(scale, BadNumber(number), put, k, number)

    def test_dropping(self):
        for row in ROWS:
            for k in range(len(row)):
                scale = Scale(*row)
                check_same(self, [scale.drop(k), scale.numbers], [row[k], row[:k] + row[k + 1:]])
        scale = Scale(0, 7)
        check_same(self, [scale.drop(k=1), scale.drop(0), len(scale)], [7, 0, 0])
        self.check_refused(scale, BadScale(0), scale.drop, 0)
        scale = Scale(0, 7, 2)
        for value in any_values() + [3, -1]:
            if no_index(value, 3):
                self.check_refused(scale, BadScale(value), scale.drop, value)

    def test_putting(self):
        scale = Scale()
        for at, number in enumerate(FULL):
            self.assertIsNone(scale.put(number))
            check_same(self, scale.numbers, FULL[:at + 1])
        self.check_refused(scale, TooMany("notes", 16), scale.put, 6)
        self.check_refused(scale, BadNumber(0), scale.put, 0)
        self.check_refused(scale, BadNumber(13), scale.put, 13)
        scale.drop(0)
        scale.put(number=-12)
        check_same(self, scale.numbers, FULL[1:] + (-12,))
        scale = Scale(0, 7, 2)
        for value in any_values() + [13, -13, 7]:
            if type(value) is not int or not -12 <= value <= 12 or value in scale.numbers:
                self.check_refused(scale, BadNumber(value), scale.put, value)

    def test_cut(self):
        for row in ROWS:
            scale = Scale(*row)
            for first in range(len(row) + 1):
                for end in range(first, len(row) + 1):
                    check_same(self, scale.cut(first, end).numbers, row[first:end])
        scale = Scale(0, 7, 2)
        part = scale.cut(end=3, first=0)
        self.assertIsNot(part, scale)
        part.drop(0)
        check_same(self, [scale.numbers, part.numbers], [(0, 7, 2), (7, 2)])
        for first, end in itertools.product(any_values() + [3, 4, -1], any_values() + [3, 4, -1]):
            if no_index(first, 4):
                self.check_refused(scale, BadScale(first), scale.cut, first, end)
            elif no_index(end, 4) or end < first:
                self.check_refused(scale, BadScale(end), scale.cut, first, end)

    def test_raised_in_place_it_is_the_same_scale(self):
        scale = name = Scale(0, 7, 2)
        name += 5
        self.assertIs(name, scale)
        check_same(self, scale.numbers, (5, 12, 7))
        name += -17
        name += 0
        check_same(self, scale.numbers, (-12, -5, -10))
        empty = Scale()
        empty += LONG
        check_same(self, [empty.numbers, (empty + LONG).numbers], [(), ()])

    def test_raised_into_a_new_scale(self):
        for row, more in itertools.product(ROWS, range(-25, 26)):
            scale = Scale(*row)
            if all(-12 <= number + more <= 12 for number in row):
                raised = scale + more
                self.assertIsNot(raised, scale)
                check_same(self, [raised.numbers, scale.numbers], [tuple(number + more for number in row), row])
            else:
                self.check_refused(scale, BadNumber(more), lambda: scale + more)

    def test_raising_refuses(self):
        def raise_in_place(scale, more):
            scale += more
        for row in ((), (0, 7, 2)):
            scale = Scale(*row)
            for value in any_values() + [6, -13, LONG]:
                if type(value) is not int or not all(-12 <= number + value <= 12 for number in row):
                    self.check_refused(scale, BadNumber(value), lambda: scale + value)
                    self.check_refused(scale, BadNumber(value), raise_in_place, scale, value)

    def test_negative_and_twin(self):
        for row in ROWS:
            scale = Scale(*row)
            other, twin = -scale, scale.twin()
            check_same(self, [other.numbers, twin == scale], [tuple(-number for number in row), True])
            self.assertTrue(other is not scale and twin is not scale)
            if row:
                twin.drop(0)
                other.drop(0)
                check_same(self, scale.numbers, row)
            scale += 0
            check_same(self, twin.numbers, row[1:])

    def test_going_over_it_while_it_changes(self):
        scale = Scale(0, 7, 2)
        found = []
        for number in scale:
            found.append(number)
            if len(scale) < 6:
                scale.put(number + 1)
            scale[0] = -5
        check_same(self, [found, scale.numbers], [[0, 7, 2], (-5, 7, 2, 1, 8, 3)])
        ahead = iter(scale)
        scale.drop(0)
        check_same(self, [list(ahead), list(scale)], [[-5, 7, 2, 1, 8, 3], [7, 2, 1, 8, 3]])

    def test_backward_begins_with_its_first_item(self):
        scale = Scale(0, 7, 2)
        back = scale.backward()
        scale.drop(0)
        check_same(self, next(back), 2)
        scale.drop(0)
        check_same(self, [list(back), list(scale.backward())], [[7], [2]])

    def test_a_change_between_two_questions(self):
        scale, high = Scale(0, 7, 2), Piece(Ratio(4, 7), Ratio(3, 5))
        asked = [scale(Ratio(7, 12)), scale.ordered(high), str(scale.apart()), str(scale)]
        scale.put(5)
        changed = [scale(Ratio(7, 12)), scale.ordered(high), str(scale.apart()), str(scale)]
        check_same(self, changed, [(0, 1, 2, 11), (0, 7, 2, 5), str(Scale(0, 7, 2, 5).apart()), "0 7 2 5"])
        scale.drop(3)
        check_same(self, [scale(Ratio(7, 12)), scale.ordered(high), str(scale.apart()), str(scale)], asked)

    def test_what_was_returned_stays(self):
        scale = Scale(0, 7, 2)
        numbers, keys = scale.numbers, scale(Ratio(7, 12))
        scale += 1
        scale[0] = -3
        check_same(self, [numbers, keys], [(0, 7, 2), (0, 1, 2)])


class KeysTest(unittest.TestCase):
    def test_keys_and_groups(self):
        for row in ROWS:
            scale = Scale(*row)
            for fifth in fifths_to(14) + [Ratio(LONG, 2 * LONG + 1), Ratio(1, LONG), Ratio(LONG - 1, LONG)]:
                keys = tuple(key_of(number, fifth) for number in row)
                check_same(self, [scale(fifth), scale(fifth=fifth)], [keys, keys])
                groups = [tuple(number for number in row if key_of(number, fifth) == key) for key in sorted(set(keys))]
                check_same(self, [scale.groups(fifth), scale.groups(fifth=fifth)], [tuple(groups)] * 2)

    def test_keys_and_groups_refuse(self):
        for value in any_values() + [Ratio(0), Ratio(1)]:
            if not Ratio.is_fifth(value):
                check_raises(self, BadFifth(value), Scale(0, 7), value)
                check_raises(self, BadFifth(value), Scale(0, 7).groups, value)
                check_raises(self, BadFifth(value), Scale().groups, value)

    def test_ordered_and_steps(self):
        made = 0
        for row, piece in itertools.product(ROWS, all_pieces(6) + [FAR, Piece(0, Ratio(1, 30))]):
            scale = Scale(*row)
            try:
                ring = Ring(piece, *row)
            except Meets as error:
                check_raises(self, error, scale.ordered, piece)
                check_raises(self, error, scale.steps, piece)
                continue
            made += len(row) > 1
            for u, v in ((1, 1), (3, 2), (1, 9), (LONG, LONG + 1)):
                fifth = piece.ratio(u, v)
                expected = tuple(sorted(row, key=lambda number: number * fifth.top % fifth.bottom))
                check_same(self, [scale.ordered(piece), scale.ordered(piece=piece)], [expected, expected])
                self.check_steps(scale, piece, fifth, expected)
            self.assertEqual(set(ring.order) - {0}, set(row) - {0})
        self.assertGreater(made, 50)

    def check_steps(self, scale, piece, fifth, row):
        """The steps are those from note to note in this order, counted and ascending."""
        steps = scale.steps(piece)
        told = []
        for low, high in zip(row, row[1:] + row[:1]):
            up = (high - low) * exact(fifth)
            octaves = -up.__floor__() if low != high else 1
            told.append((high - low, octaves))
        expected = tuple((Tone(octaves, fifths), told.count((fifths, octaves))) for fifths, octaves in sorted(set(told)))
        check_same(self, steps, expected)
        self.assertEqual(sum(exact(tone(fifth)) * many for tone, many in steps), 1 if row else 0)

    def test_steps_of_one_note_and_of_none(self):
        for piece in (Piece.whole(), FAR):
            check_same(self, Scale(0).steps(piece), ((Tone(1, 0), 1),))
            check_same(self, [Scale().steps(piece=piece), Scale().ordered(piece)], [(), ()])
        check_same(self, Scale(5).steps(FAR), ((Tone(1, 0), 1),))
        check_raises(self, Meets(0, 5, Ratio(1, 5)), Scale(5).steps, Piece.whole())

    def test_steps_of_a_scale_of_fifths(self):
        seven = Scale(0, 1, 2, 3, 4, 5, 6)
        check_same(self, seven.steps(Piece(Ratio(4, 7), Ratio(3, 5))), ((Tone(3, -5), 2), (Tone(-1, 2), 5)))
        check_same(self, [many for _, many in Scale(0, 1, 2, 3).steps(Piece(0, Ratio(1, 3)))], [1, 3])

    def test_ordered_and_steps_refuse(self):
        for value in any_values():
            if not isinstance(value, Piece):
                for scale in (Scale(), Scale(0), Scale(0, 7, 2)):
                    check_raises(self, BadPiece("piece"), scale.ordered, value)
                    check_raises(self, BadPiece("piece"), scale.steps, value)
        check_raises(self, Meets(-12, 12, Ratio(1, 24)), Scale(12, -12).ordered, Piece(0, Ratio(1, 23)))


class RegionTest(unittest.TestCase):
    def model_of(self, order):
        """The fifths at which going up these notes come in this order, none together."""
        def fits(x):
            places = [((number - order[0]) * x) % 1 for number in order]
            return all(low < high for low, high in zip(places, places[1:]))
        return Model(fits, fits)

    def apart_model(self, row):
        return Model(lambda x: len({number * x % 1 for number in row}) == len(row), lambda x: True)

    def test_apart(self):
        for row in ROWS[:-2]:
            region = Scale(*row).apart()
            if len(row) < 2 or max(row) - min(row) < 9:
                check_region(self, region, self.apart_model(row), 8)
            fits = self.apart_model(row).fits
            for fifth in fifths_to(26):
                check_same(self, fifth in region, fits(exact(fifth)))
            for fifth in (Ratio(LONG, 2 * LONG + 1), Ratio(1, LONG)):
                self.assertIn(fifth, region)
            self.assertTrue(all(truths[4] for _, truths in region.parts()))

    def test_order_region_against_keys(self):
        fifths = fifths_to(26) + [Ratio(LONG, 2 * LONG + 1), Ratio(1, LONG), Ratio(LONG - 1, LONG)]
        for row in ROWS[:-2]:
            orders = [row, row[::-1], tuple(sorted(row)), row[1:] + row[:1]]
            for order in orders + list(itertools.permutations(row))[:6]:
                region, fits = Scale(*row).order_region(order), self.model_of(order).fits
                check_same(self, [fifth in region for fifth in fifths], [fits(exact(fifth)) for fifth in fifths])
                if not row or max(row) - min(row) < 9:
                    check_region(self, region, self.model_of(order), 8)

    def test_order_region_of_what_stands_on_a_keyboard(self):
        for row in ROWS[-2:]:
            scale = Scale(*row)
            for fifth in (Ratio(7, 12), Ratio(18, 31), Ratio(12, 25), Ratio(3, 97)):
                order = sorted(row, key=lambda number: key_of(number, fifth))
                apart = len(set(scale(fifth))) == len(row)
                for turned in (order, order[3:] + order[:3]):
                    region = scale.order_region(turned)
                    check_same(self, fifth in region, apart)
                    check_same(self, region <= scale.apart(), True)

    def test_the_orders_of_three_notes_part_the_fifths(self):
        scale = Scale(0, 7, 2)
        one, other = scale.order_region([0, 7, 2]), scale.order_region((0, 2, 7))
        check_same(self, [bool(one & other), one | other == scale.apart()], [False, True])
        check_same(self, scale.order_region((7, 2, 0)) == scale.order_region(numbers=[0, 7, 2]), True)

    def test_of_no_notes_and_of_one(self):
        for scale in (Scale(), Scale(0), Scale(-12)):
            for region in (scale.apart(), scale.order_region(scale.numbers), scale.order_region(list(scale))):
                check_same(self, region == Region.every(), True)

    def test_order_region_refuses(self):
        scale = Scale(0, 1, 2)
        wrong = any_values() + [(0, 1), (0, 1, 1), [0, 1, 2, 2], (0, 1, 3), (0, True, 2), [False, 1, 2], ("0", "1", "2"),
                                (0, 1, Ratio(2)), (0, 1, None), {0: 1, 1: 1, 2: 2}, "012", (0, 1, [2]), scale]
        for value in wrong:
            check_raises(self, BadScale(None), scale.order_region, value)
        for value in any_values():
            if value != () and value != []:
                check_raises(self, BadScale(None), Scale().order_region, value)
        given = [2, 0, 1]
        scale.order_region(given)
        check_same(self, given, [2, 0, 1])

    def test_great_scales_are_quick(self):
        scale = Scale(*FULL)
        check_quick(self, lambda: [scale.apart(), scale.order_region(FULL), scale.order_region(sorted(FULL))])
        check_quick(self, lambda: [scale.ordered(FAR), scale.steps(FAR), scale.groups(FAR.middle)])


class TextTest(unittest.TestCase):
    def test_back_and_forth(self):
        for row in ROWS:
            text = " ".join(map(str, row)) if row else "-"
            check_same(self, [str(Scale(*row)), Scale.read(text) == Scale(*row), Scale.read(text=text).numbers],
                       [text, True, row])

    def test_words_that_cannot_stand(self):
        sixteen = " ".join(map(str, FULL))
        told = {
            "": 0, " ": 0, "- ": 0, " -": 0, "- 1": 0, "--": 0, "x": 0, "13": 0, "-13": 0, "+1": 0, "01": 0, "-0": 0,
            "1.0": 0, "\n": 0, "1\n": 0, "1,2": 0, "100": 0, "\u0661": 0,
            "1 ": 1, "1  2": 1, "1 1": 1, "1 -": 1, "1 x 1": 1, "1 2 1 x": 2, "0 1 -13": 2, "0 1 2 ": 3, "0 00": 1,
            f"{sixteen} 6": 16, f"{sixteen} x": 16, f"{sixteen} 0": 16, f"{sixteen} ": 16, f"{sixteen} 6 13": 16,
            f"0 {sixteen}": 7,
        }
        for text, word in told.items():
            check_raises(self, BadText(0, word), Scale.read, text)

    def test_what_is_no_string(self):
        for value in any_values():
            if not isinstance(value, str):
                check_raises(self, BadText(0, 0), Scale.read, value)


if __name__ == "__main__":
    unittest.main()
