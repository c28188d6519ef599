import itertools
import unittest

from anyfifth.errors import BadFifth, BadNumber, BadPiece, BadText, BadTone, Meets, TooMany
from anyfifth.pieces import Piece, met, ratio_by
from anyfifth.ratios import Ratio
from anyfifth.regions import Region
from anyfifth.tones import Tone, position
from tests.support import (
    all_pieces, any_values, check_examples, check_quick, check_raises, check_same, exact, fifths_to)

EXAMPLES = """
>>> from anyfifth.tones import Tone, position
>>> sharp = Tone(-4, 7)
>>> [str(sharp), str(sharp(Ratio(7, 12))), str(sharp * 2 - Tone(1)), str(position(7, Piece(Ratio(4, 7), Ratio(3, 5)))), str(position(0, Piece.whole()))]
['-4,7', '1/12', '-9,14', '-4,7', '0,0']
>>> [Tone(0, 1).above(Tone(1, -1)) == Region.stretch(Ratio(1, 2), 1), Tone(0, 2).level(Tone(1)) == Region.only(Ratio(1, 2)), Tone(1).above(Tone(0, 1)) == Region.every()]
[True, True, True]
>>> position(-3, Piece.whole())
raises Meets(-3, 0, Ratio(1, 3))
"""

LONG = 10 ** 39 + 7
NUMBERS = [0, 1, -1, 2, -4, 7, LONG, -LONG]
FAR = [Ratio(1, LONG), Ratio(LONG - 1, LONG), Ratio(LONG, 2 * LONG + 1), ratio_by(*([1] * 185), 5)]


def pairs():
    return list(itertools.product(NUMBERS, NUMBERS))


class ToneTest(unittest.TestCase):
    def check_tone(self, value, octaves, fifths):
        self.assertIs(type(value), Tone)
        check_same(self, (value.octaves, value.fifths), (octaves, fifths))

    def test_examples(self):
        names = {}
        exec("from anyfifth.ratios import Ratio\nfrom anyfifth.pieces import Piece\n"
             "from anyfifth.regions import Region", names)
        check_examples(self, EXAMPLES, names)

    def test_made(self):
        for octaves, fifths in pairs():
            self.check_tone(Tone(octaves, fifths), octaves, fifths)
            self.check_tone(Tone(fifths=fifths, octaves=octaves), octaves, fifths)
        self.check_tone(Tone(3), 3, 0)

    def test_made_of_any_values(self):
        for octaves, fifths in itertools.product(any_values(), any_values()):
            if type(octaves) is not int:
                check_raises(self, BadTone("octaves"), Tone, octaves, fifths)
            elif type(fifths) is not int:
                check_raises(self, BadTone("fifths"), Tone, octaves, fifths)
            else:
                self.check_tone(Tone(octaves, fifths), octaves, fifths)

    def test_pitch(self):
        for octaves, fifths in pairs():
            for fifth in fifths_to(7) + FAR:
                pitch = Tone(octaves, fifths)(fifth)
                self.assertIs(type(pitch), Ratio)
                self.assertEqual(exact(pitch), octaves + fifths * exact(fifth))
        check_same(self, Tone(1, 2)(fifth=Ratio(1, 2)), Ratio(2))

    def test_pitch_refuses(self):
        for value in any_values() + [Ratio(0), Ratio(1), 1]:
            if not Ratio.is_fifth(value):
                check_raises(self, BadFifth(value), Tone(1, 2), value)

    def test_sums_and_products(self):
        for (a, b), (c, d) in itertools.product(pairs()[::3], pairs()[::4]):
            one, other = Tone(a, b), Tone(c, d)
            self.check_tone(one + other, a + c, b + d)
            self.check_tone(one - other, a - c, b - d)
        for (a, b), n in itertools.product(pairs(), NUMBERS):
            self.check_tone(-Tone(a, b), -a, -b)
            self.check_tone(Tone(a, b) * n, a * n, b * n)
            self.check_tone(n * Tone(a, b), a * n, b * n)

    def test_in_place_the_name_is_bound_and_the_tone_stays(self):
        kept = name = Tone(-4, 7)
        name += Tone(1, 2)
        self.check_tone(name, -3, 9)
        name -= Tone(0, 10)
        self.check_tone(name, -3, -1)
        name *= -2
        self.check_tone(name, 6, 2)
        self.check_tone(kept, -4, 7)

    def test_equal_and_bool(self):
        for (a, b), (c, d) in itertools.product(pairs(), pairs()):
            check_same(self, [Tone(a, b) == Tone(c, d), Tone(a, b) != Tone(c, d)], [(a, b) == (c, d), (a, b) != (c, d)])
        for a, b in pairs():
            check_same(self, bool(Tone(a, b)), (a, b) != (0, 0))
        for value in any_values() + ["0,0", (0, 0)]:
            if not isinstance(value, Tone):
                check_same(self, [Tone(0) == value, value == Tone(0), Tone(1) == value], [False] * 3)

    def test_text_back_and_forth(self):
        for a, b in pairs() + [(10 ** 60 - 1, 1 - 10 ** 60)]:
            check_same(self, str(Tone(a, b)), f"{a},{b}")
            self.check_tone(Tone.read(f"{a},{b}"), a, b)
            self.check_tone(Tone.read(text=f"{a},{b}"), a, b)
        long = Tone(10 ** 30, -1)
        for _ in range(8):
            long = long * long.octaves
        check_same(self, str(long), "1" + "0" * (30 * 256) + ",-1" + "0" * (30 * 255))

    def test_texts_of_no_tone(self):
        texts = ["", ",", "1", "1,", ",1", "1,2,3", "1, 2", "1 ,2", " 1,2", "1,2 ", "+1,2", "1,+2", "-0,1", "1,-0",
                 "01,2", "1,02", "1.2", "a,b", "1;2", "1,2\n", "--1,2", "1,2,", f"{10 ** 60},1", f"1,{-10 ** 60}"]
        for text in texts:
            check_raises(self, BadText(0, 0), Tone.read, text)
        for value in any_values():
            check_raises(self, BadText(0, 0), Tone.read, value)

    def test_above_and_level_against_pitches(self):
        near = [Tone(a, b) for a, b in itertools.product(range(-2, 3), range(-3, 4))]
        fifths = fifths_to(13)
        for one, other in itertools.product(near[::2], near[::3]):
            above, level = one.above(other), one.level(other)
            check_same(self, [fifth in above for fifth in fifths], [one(fifth) > other(fifth) for fifth in fifths])
            check_same(self, [fifth in level for fifth in fifths], [one(fifth) == other(fifth) for fifth in fifths])
            for fifth in FAR:
                check_same(self, [fifth in above, fifth in level],
                           [one(fifth) > other(fifth), one(fifth) == other(fifth)])
            # Each fifth is in just one of the three, also those that are no fraction.
            check_same(self, above | level | other.above(one) == Region.every(), True)
            check_same(self, [bool(above & level), bool(above & other.above(one))], [False, False])
        check_same(self, Tone(0).above(other=Tone(1, -1)) == Region.none(), True)

    def test_above_and_level_of_equal_tones(self):
        for a, b in pairs():
            tone = Tone(a, b)
            check_same(self, [tone.above(Tone(a, b)) == Region.none(), tone.level(Tone(a, b)) == Region.every()],
                       [True, True])
            check_same(self, [Tone(a + 1, b).above(tone) == Region.every(), tone.above(Tone(a + 1, b)) == Region.none()],
                       [True, True])
            check_same(self, tone.level(Tone(a + 1, b)) == Region.none(), True)

    def test_above_and_level_at_the_ends_and_beyond(self):
        every, none = Region.every(), Region.none()
        for one, other, above, level in (
                (Tone(0, 1), Tone(0), every, none), (Tone(0), Tone(0, 1), none, none),
                (Tone(0, 1), Tone(1), none, none), (Tone(1), Tone(0, 1), every, none),
                (Tone(0, 1), Tone(7), none, none), (Tone(0, -1), Tone(-7), every, none),
                (Tone(LONG, 1), Tone(0), every, none), (Tone(0, LONG), Tone(LONG), none, none)):
            check_same(self, [one.above(other) == above, one.level(other) == level], [True, True])

    def test_above_and_level_far_down(self):
        low = Ratio(1, LONG)
        levels = TooMany("levels", 200)
        check_quick(self, check_raises, self, levels, Tone(0, LONG).above, Tone(1))
        check_quick(self, check_raises, self, levels, Tone(1).above, Tone(0, LONG))
        check_quick(self, check_raises, self, levels, Tone(0, LONG).level, Tone(1))
        check_raises(self, levels, Tone(0, 202).above, Tone(1))
        check_same(self, Tone(0, 201).above(Tone(1)) == Region.stretch(Ratio(1, 201), 1), True)
        check_same(self, Tone(1).above(Tone(0, 201)) == Region.stretch(0, Ratio(1, 201)), True)
        check_raises(self, levels, Tone(0, 203).level, Tone(1))
        check_same(self, Tone(0, 202).level(Tone(1)) == Region.only(Ratio(1, 202)), True)
        self.assertIn(low, Tone(1).above(Tone(0, 201)))

    def test_above_and_level_refuse(self):
        for value in any_values():
            if not isinstance(value, Tone):
                check_raises(self, BadTone("other"), Tone(0, LONG).above, value)
                check_raises(self, BadTone("other"), Tone(0, LONG).level, value)

    def test_each_method_stands_in_the_class(self):
        for name in ("__call__", "__add__", "__sub__", "__neg__", "__mul__", "__rmul__", "__eq__", "__bool__",
                     "__str__", "read", "above", "level"):
            self.assertIn(name, vars(Tone))
        self.assertEqual([Tone.__module__, position.__module__], ["anyfifth.tones"] * 2)


class PositionTest(unittest.TestCase):
    def test_against_keys_or_refused(self):
        for piece in all_pieces(5):
            for number in list(range(-30, 31)) + [96, -96, 95, -95]:
                at = met(number, piece)
                if at is not None:
                    one, other = sorted([0, number])
                    check_raises(self, Meets(one, other, at), position, number, piece)
                    continue
                tone = position(number, piece)
                self.assertEqual(tone.fifths, number)
                for u, v in ((1, 1), (2, 1), (1, 2), (5, 3), (1, 50), (50, 1), (LONG, LONG + 1), (LONG, 1), (1, LONG)):
                    fifth = piece.ratio(u, v)
                    place = number * exact(fifth)
                    self.assertEqual(exact(tone(fifth)), place - place.__floor__())

    def test_far_pieces(self):
        far = Piece(Ratio(LONG - 1, LONG), 1)
        for number, octaves in ((0, 0), (1, 0), (2, -1), (-1, 1), (96, -95), (-96, 96)):
            tone = position(number, far)
            check_same(self, (tone.octaves, tone.fifths), (octaves, number))
        check_same(self, position(piece=far, number=5) == Tone(-4, 5), True)

    def test_numbers_that_meet_note_0(self):
        check_raises(self, Meets(0, 2, Ratio(1, 2)), position, 2, Piece.whole())
        check_raises(self, Meets(-6, 0, Ratio(1, 2)), position, -6, Piece.whole())
        check_raises(self, Meets(0, 96, Ratio(2, 3)), position, 96, Piece(Ratio(1, 2), 1))
        for number in (0, 1, -1):
            self.assertEqual(position(number, Piece.whole()).fifths, number)

    def test_refuses_in_order(self):
        for number, piece in itertools.product(any_values() + [97, -97], any_values()):
            if type(number) is not int or not -96 <= number <= 96:
                check_raises(self, BadNumber(number), position, number, piece)
            elif not isinstance(piece, Piece):
                check_raises(self, BadPiece("piece"), position, number, piece)


if __name__ == "__main__":
    unittest.main()
