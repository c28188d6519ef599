import itertools
import unittest
from fractions import Fraction

from anyfifth.errors import BadFifth, BadNumber, BadTerm
from anyfifth.ratios import Ratio
from anyfifth.terms import Height, Moving, Note, Term
from anyfifth.tones import Tone
from tests.support import any_values, check_examples, check_raises, check_same, exact, fifths_to, key_of

EXAMPLES = """
>>> from anyfifth.terms import Height, Moving, Note
>>> [Moving(7).note(5), str(Moving(2).position(1, Ratio(3, 5))), Note(3).mirrored() == Note(-3)]
[12, '4/5', True]
>>> lifted = Height(Tone(1, -1), Moving(1))
>>> [str(lifted.pitch(0, Ratio(3, 5))), lifted.mirrored() == Height(Tone(0, 1), Moving(-1))]
['1/1', True]
>>> Moving(12).moved(1)
raises BadTerm('number')
"""

LONG = 10 ** 39 + 7
FIFTHS = fifths_to(9) + [Ratio(LONG, 2 * LONG + 1), Ratio(1, LONG), Ratio(LONG - 1, LONG)]
NUMBERS = [0, 1, -1, 5, -12, 12, 100, LONG, -LONG]


def is_near(value, most):
    return type(value) is int and -most <= value <= most


class TermTest(unittest.TestCase):
    def test_examples(self):
        names = {}
        exec("from anyfifth.ratios import Ratio\nfrom anyfifth.tones import Tone", names)
        check_examples(self, EXAMPLES, names)

    def test_made(self):
        for number in range(-12, 13):
            for term, moving in ((Note(number), False), (Moving(number), True), (Note(number=number), False)):
                check_same(self, [term.number, term.is_moving, isinstance(term, Term)], [number, moving, True])
        for value in any_values() + [13, -13, LONG]:
            if not is_near(value, 12):
                check_raises(self, BadTerm("number"), Note, value)
                check_raises(self, BadTerm("number"), Moving, value)

    def test_notes(self):
        for number, n in itertools.product(range(-12, 13), NUMBERS):
            check_same(self, [Note(number).note(n), Moving(number).note(n), Moving(number).note(n=n)],
                       [number, n + number, n + number])

    def test_positions(self):
        for number, n, fifth in itertools.product((0, 1, -5, 12, -12), NUMBERS, FIFTHS):
            for term, note in ((Note(number), number), (Moving(number), n + number)):
                found = term.position(n, fifth)
                self.assertIs(type(found), Ratio)
                place = note * exact(fifth)
                self.assertEqual(exact(found), place - place.__floor__())
                self.assertTrue(0 <= found < 1)
        check_same(self, Moving(1).position(fifth=Ratio(2, 3), n=1), Ratio(1, 3))

    def test_notes_and_positions_refuse(self):
        for term in (Note(3), Moving(3)):
            for n, fifth in itertools.product(any_values(), any_values()):
                if type(n) is not int:
                    check_raises(self, BadNumber(n), term.note, n)
                    check_raises(self, BadNumber(n), term.position, n, fifth)
                elif not Ratio.is_fifth(fifth):
                    check_raises(self, BadFifth(fifth), term.position, n, fifth)

    def test_moved_within_the_bounds_and_beyond(self):
        for number, more in itertools.product(range(-12, 13), list(range(-26, 27)) + [LONG, -LONG]):
            for made, other in ((Note, Moving), (Moving, Note)):
                term = made(number)
                if -12 <= number + more <= 12:
                    moved = term.moved(more)
                    check_same(self, [moved == made(number + more), moved == other(number + more), term.number],
                               [True, False, number])
                else:
                    check_raises(self, BadTerm("number"), term.moved, more)
        for value in any_values():
            if type(value) is not int:
                check_raises(self, BadTerm("number"), Note(0).moved, value)
                check_raises(self, BadTerm("number"), Moving(0).moved, value)
        check_same(self, Note(1).moved(number=2) == Note(3), True)

    def test_mirrored(self):
        for number in range(-12, 13):
            check_same(self, [Note(number).mirrored() == Note(-number), Moving(number).mirrored() == Moving(-number)],
                       [True, True])
        for number, n, fifth in itertools.product((0, 3, -7), NUMBERS, FIFTHS):
            for term in (Note(number), Moving(number)):
                check_same(self, term.mirrored().position(-n, 1 - fifth), term.position(n, fifth))

    def test_equal_by_class_and_number(self):
        terms = [made(number) for made in (Note, Moving) for number in range(-12, 13)]
        for (at, one), (place, other) in itertools.product(enumerate(terms), enumerate(terms)):
            check_same(self, [one == other, one != other], [at == place, at != place])
        check_same(self, [Note(3) == Note(3), Moving(3) == Moving(3)], [True, True])
        for value in any_values():
            if not isinstance(value, Term):
                check_same(self, [Note(0) == value, value == Note(0), Moving(1) == value], [False] * 3)

    def test_each_method_stands_in_the_class(self):
        for name in ("is_moving", "note", "position", "moved", "mirrored", "__eq__"):
            self.assertIn(name, vars(Term))
        for name in ("__init__", "is_moving", "note", "position", "moved", "mirrored"):
            self.assertIn(name, vars(Note))
            self.assertIn(name, vars(Moving))
        for name in ("pitch", "moved", "mirrored", "__eq__"):
            self.assertIn(name, vars(Height))
        self.assertEqual([one.__module__ for one in (Term, Note, Moving, Height)], ["anyfifth.terms"] * 4)


class HeightTest(unittest.TestCase):
    def test_made(self):
        for octaves, fifths in ((0, 0), (20, -20), (-20, 20), (3, 0)):
            tone, term = Tone(octaves, fifths), Moving(-12)
            for height in (Height(tone, term), Height(term=term, tone=tone)):
                self.assertTrue(height.tone is tone and height.term is term)
        for octaves, fifths in ((21, 0), (0, 21), (-21, 0), (0, -21), (LONG, 0)):
            check_raises(self, BadTerm("tone"), Height, Tone(octaves, fifths), Note(0))
            check_raises(self, BadTerm("tone"), Height, Tone(octaves, fifths), "x")

    def test_made_of_any_values(self):
        for tone, term in itertools.product(any_values(), any_values()):
            if not isinstance(tone, Tone):
                check_raises(self, BadTerm("tone"), Height, tone, term)
            elif not isinstance(term, Term):
                check_raises(self, BadTerm("term"), Height, tone, term)

    def test_pitch(self):
        heights = [Height(Tone(a, b), term) for a, b in ((0, 0), (1, -1), (-20, 20), (3, 7))
                   for term in (Note(0), Note(-5), Moving(0), Moving(12))]
        for height, n, fifth in itertools.product(heights, NUMBERS, FIFTHS):
            pitch = height.pitch(n, fifth)
            self.assertIs(type(pitch), Ratio)
            key = key_of(height.term.note(n), fifth)
            expected = height.tone.octaves + height.tone.fifths * exact(fifth) + Fraction(key, fifth.bottom)
            self.assertEqual(exact(pitch), expected)
        check_same(self, Height(Tone(1), Note(0)).pitch(fifth=Ratio(1, 2), n=0), Ratio(1))

    def test_pitch_refuses(self):
        for n, fifth in itertools.product(any_values(), any_values()):
            if type(n) is not int:
                check_raises(self, BadNumber(n), Height(Tone(1), Note(0)).pitch, n, fifth)
            elif not Ratio.is_fifth(fifth):
                check_raises(self, BadFifth(fifth), Height(Tone(1), Note(0)).pitch, n, fifth)

    def test_moved(self):
        height = Height(Tone(2, -3), Moving(10))
        check_same(self, [height.moved(2) == Height(Tone(2, -3), Moving(12)), height.term.number], [True, 10])
        check_same(self, height.moved(number=-22) == Height(Tone(2, -3), Moving(-12)), True)
        for value in any_values() + [3, -23, LONG]:
            if type(value) is not int or not -22 <= value <= 2:
                check_raises(self, BadTerm("number"), height.moved, value)

    def test_mirrored(self):
        for octaves, fifths in itertools.product(range(-20, 21, 5), range(-20, 21, 4)):
            for term in (Note(7), Moving(-3)):
                height = Height(Tone(octaves, fifths), term)
                if not -20 <= octaves + fifths <= 20:
                    check_raises(self, BadTerm("tone"), height.mirrored)
                    continue
                mirrored = height.mirrored()
                check_same(self, mirrored == Height(Tone(octaves + fifths, -fifths), term.mirrored()), True)
                for n, fifth in itertools.product((0, 5, -LONG), FIFTHS[::4]):
                    check_same(self, mirrored.pitch(-n, 1 - fifth), height.pitch(n, fifth))

    def test_equal(self):
        heights = [Height(Tone(a, b), term) for a, b in ((0, 0), (1, 0), (0, 1))
                   for term in (Note(0), Note(1), Moving(0), Moving(1))]
        for (at, one), (place, other) in itertools.product(enumerate(heights), enumerate(heights)):
            check_same(self, [one == other, one != other], [at == place, at != place])
        check_same(self, Height(Tone(0), Note(0)) == Height(Tone(0, 0), Note(0)), True)
        for value in any_values():
            if not isinstance(value, Height):
                check_same(self, [heights[0] == value, value == heights[0]], [False, False])


if __name__ == "__main__":
    unittest.main()
