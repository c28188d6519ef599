import itertools
import unittest
from fractions import Fraction

from anyfifth.errors import BadFifth, BadMove, BadNumber, BadRatio, BadRound, BadTone, TooMany
from anyfifth.firsts import first_n
from anyfifth.melodies import Bring, Melody, Move, Shift
from anyfifth.ratios import Ratio
from anyfifth.sayings import Even, Higher, Not
from anyfifth.sentences import Each, Some, judge
from anyfifth.terms import Height, Moving
from anyfifth.tones import Tone
from tests.said import is_true_at
from tests.support import (
    any_values, check_examples, check_first_raises, check_quick, check_raises, check_same, exact, fifths_to, ratio_of)

EXAMPLES = """
>>> from anyfifth.melodies import Bring, Melody, Shift
>>> up = Shift(Tone(0, 1))
>>> low, moved = Melody(Tone(0), up, Bring(Tone(0))), Melody(Tone(0), up, Bring(Tone(-1, 2)))
>>> [[str(one) for one in low.played(3, Ratio(4, 5))], [str(one) for one in moved.played(3, Ratio(4, 5))], str(moved.pitch(10 ** 30, Ratio(3, 5)))]
[['0/1', '4/5', '3/5', '2/5'], ['0/1', '4/5', '3/5', '7/5'], '1/1']
>>> [moved.height == Height(Tone(-1, 2), Moving(-2)), first_n(Not(low.alike(moved)), Ratio(4, 5), 1), first_n(Not(low.alike(moved)), Ratio(3, 5), 1)]
[True, 3, 5]
>>> Each(low.alike(moved), 1).region() == Region.only(Ratio(1, 2))
True
>>> Melody(Tone(0), up, up, Bring(Tone(0)))
raises BadRound('fifths')
"""

MOST = 10 ** 40 - 1
LONG = 10 ** 39 + 7
FAR = [Ratio(LONG, 2 * LONG + 1), Ratio(1, LONG), Ratio(LONG - 1, LONG), Ratio(MOST - 1, MOST)]
UP, HOME = Shift(Tone(0, 1)), Bring(Tone(0))
TONES = [Tone(0), Tone(-1, 2), Tone(1, -1), Tone(3, 1), Tone(-2, 0), Tone(0, -4)]


def melodies():
    """Melodies with one Bring and with several ones, with Shifts ahead, between and behind them."""
    found = []
    for at, (one, other) in enumerate(itertools.product(TONES, TONES)):
        found.append([[UP, Bring(one)], [Bring(one), UP], [Shift(other), Bring(one), Shift(Tone(2, 1 - other.fifths))],
                      [Bring(other), UP, Bring(one)], [Shift(one), Bring(one), Bring(other), Shift(Tone(0, 1) - one)],
                      [UP, Bring(one), Shift(other), Bring(Tone(1, 1)), Shift(-other), Bring(other)],
                      [Shift(Tone(5)), Bring(one), Shift(Tone(-5, 1))]][at % 7])
    starts = [Tone(0), Tone(2, 3), Tone(-7, -2), Tone(10 ** 30, 1)]
    return [Melody(starts[at % 4], *moves) for at, moves in enumerate(found)]


def moved_by(move, pitch, fifth):
    """The pitch behind a move, as a Fraction: octaves are added or taken away one by one where they are few."""
    tone = move.tone.octaves + move.tone.fifths * fifth
    if isinstance(move, Shift):
        return pitch + tone
    pitch -= (pitch - tone) // 1
    if not tone <= pitch < tone + 1:
        raise AssertionError("not brought")
    return pitch


def played_by(melody, many, fifth):
    """The pitches behind 0 to so many rounds, as Fractions, move by move."""
    fifth = exact(fifth)
    pitches = [melody.start.octaves + melody.start.fifths * fifth]
    for _ in range(many):
        pitch = pitches[-1]
        for move in melody.moves:
            pitch = moved_by(move, pitch, fifth)
        pitches.append(pitch)
    return pitches


class MoveTest(unittest.TestCase):
    def test_made(self):
        for made, tone in itertools.product((Shift, Bring), TONES + [Tone(LONG, -LONG)]):
            for move in (made(tone), made(tone=tone)):
                self.assertTrue(move.tone is tone and isinstance(move, Move))
        for value in any_values():
            if not isinstance(value, Tone):
                for made in (Shift, Bring):
                    check_raises(self, BadTone("tone"), made, value)

    def test_equal(self):
        made = list(itertools.product((Shift, Bring), TONES))
        for (one, tone), (other, told) in itertools.product(made, made):
            expected = one is other and tone == told
            check_same(self, [one(tone) == other(told), one(tone) != other(told)], [expected, not expected])
        check_same(self, Bring(Tone(1, -1)) == Bring(Tone(2, -2) - Tone(1, -1)), True)
        for value in any_values():
            check_same(self, [Shift(Tone(9)) == value, value == Shift(Tone(9))], [False, False])

    def test_each_name_stands_in_its_file(self):
        self.assertIn("__eq__", vars(Move))
        names = ("height", "after", "pitch", "played", "alike", "above", "__add__", "__len__", "__eq__")
        for name in names:
            self.assertIn(name, vars(Melody))
        for one in (Move, Shift, Bring, Melody):
            self.assertEqual(one.__module__, "anyfifth.melodies")


class MelodyTest(unittest.TestCase):
    def test_examples(self):
        names = {}
        exec("from anyfifth.ratios import Ratio\nfrom anyfifth.regions import Region\nfrom anyfifth.tones import Tone\n"
             "from anyfifth.terms import Height, Moving\nfrom anyfifth.sayings import Not\n"
             "from anyfifth.sentences import Each\nfrom anyfifth.firsts import first_n", names)
        check_examples(self, EXAMPLES, names)

    def test_made(self):
        start, moves = Tone(3), (UP, HOME, Shift(Tone(1)))
        melody = Melody(start, *moves)
        self.assertTrue(melody.start is start and type(melody.moves) is tuple)
        self.assertTrue(len(melody) == 3 and all(one is other for one, other in zip(melody.moves, moves)))

    def test_refuses_in_order(self):
        for start, move in itertools.product(any_values(), any_values()):
            if not isinstance(start, Tone):
                check_raises(self, BadTone("start"), Melody, start, move)
            elif not isinstance(move, Move):
                check_raises(self, BadMove(0), Melody, start, move)
                check_raises(self, BadMove(2), Melody, start, UP, UP, move, move)
                check_raises(self, BadMove(9), Melody, start, *[UP] * 9, move)
        start = Tone(LONG, LONG)
        check_raises(self, TooMany("moves", 8), Melody, start, *[UP] * 9)
        check_raises(self, BadRound("bring"), Melody, start)
        check_raises(self, BadRound("bring"), Melody, start, *[UP] * 8)
        for moves in ([HOME], [UP, UP, HOME], [HOME, Shift(Tone(1))], [Shift(Tone(1, 2)), HOME, Shift(Tone(0, -2))]):
            check_raises(self, BadRound("fifths"), Melody, start, *moves)
        check_raises(self, BadRound("height"), Melody, start, UP, HOME)

    def test_8_and_9_moves(self):
        moves = [Shift(Tone(1)), Bring(Tone(2)), Shift(Tone(0, 3)), Shift(Tone(-1, -2)), HOME, HOME, Shift(Tone(4)), HOME]
        melody = Melody(Tone(0), *moves)
        self.assertEqual(len(melody), 8)
        check_raises(self, TooMany("moves", 8), Melody, Tone(0), *moves, HOME)
        check_raises(self, TooMany("moves", 8), lambda: melody + HOME)

    def test_the_bounds_of_the_height(self):
        refused = BadRound("height")
        for fifths, number in ((12, 12), (-12, -12)):
            check_same(self, Melody(Tone(LONG, fifths), UP, HOME).height == Height(Tone(0), Moving(number)), True)
        check_raises(self, refused, Melody, Tone(0, 13), UP, HOME)
        check_raises(self, refused, Melody, Tone(0, -13), UP, HOME)
        check_raises(self, refused, Melody, Tone(0, LONG), UP, HOME)
        # Behind the Bring both numbers of the tone may be at most 20.
        for octaves, fifths in itertools.product((-21, -20, 20, 21), (-21, -20, 20, 21)):
            made = [Tone(0, fifths), UP, Bring(Tone(octaves, fifths))]
            self.check_bound(made, abs(octaves) < 21 and abs(fifths) < 21)
            made = [Tone(0, fifths), Shift(Tone(0, 1 - 9)), Bring(Tone(octaves, fifths - 9)), Shift(Tone(0, 9))]
            self.check_bound(made, abs(octaves) < 21 and abs(fifths) < 21)
        for shift in (-32, -33, 8, 9):
            made = [Tone(0, 12), Bring(Tone(12, 11)), Shift(Tone(shift)), UP]
            self.check_bound(made, abs(12 + shift) <= 20)
        # Ahead of the last Bring great numbers are no matter.
        check_same(self, Melody(Tone(0), Shift(Tone(LONG, LONG)), HOME, Shift(Tone(0, 1 - LONG)), HOME).height,
                   Height(Tone(0), Moving(0)))

    def check_bound(self, made, is_let):
        if is_let:
            self.assertIsInstance(Melody(*made).height, Height)
        else:
            check_raises(self, BadRound("height"), Melody, *made)

    def test_height_by_the_words_of_the_document(self):
        for melody in melodies():
            last = max(at for at, move in enumerate(melody.moves) if isinstance(move, Bring))
            b = melody.moves[last].tone
            tone = b
            for move in melody.moves[last + 1:]:
                tone = tone + move.tone
            c = sum(move.tone.fifths for move in melody.moves[:last] if isinstance(move, Shift))
            number = melody.start.fifths - 1 + c - b.fifths
            check_same(self, melody.height, Height(tone, Moving(number)))

    def test_rounds_move_by_move(self):
        for melody in melodies():
            for fifth in fifths_to(7)[::2] + [Ratio(7, 12)] + FAR[:3]:
                pitches = played_by(melody, 9, fifth)
                check_same(self, list(melody.played(9, fifth)), [ratio_of(one) for one in pitches])
                for n, pitch in enumerate(pitches):
                    check_same(self, melody.pitch(n, fifth), ratio_of(pitch))
                    if n > 0:
                        check_same(self, melody.height.pitch(n, fifth), ratio_of(pitch))
                for one, other in zip(pitches, pitches[1:]):
                    check_same(self, melody.after(ratio_of(one), fifth), ratio_of(other))

    def test_numbers_of_rounds(self):
        melody = melodies()[2]
        for many in (0, 1, 5):
            self.assertEqual(len(list(melody.played(fifth=Ratio(3, 5), n=many))), many + 1)
        row = melody.played(MOST, FAR[0])
        check_same(self, [next(row) for _ in range(4)], [melody.pitch(n, FAR[0]) for n in range(4)])

    def test_far_rounds_come_round(self):
        for melody in melodies()[::3]:
            for fifth in (Ratio(5, 12), Ratio(3, 7), Ratio(1, 2)):
                pitches = played_by(melody, fifth.bottom, fifth)
                for n in (MOST, LONG, 10 ** 20):
                    rest = (n - 1) % fifth.bottom + 1
                    check_same(self, melody.pitch(fifth=fifth, n=n), ratio_of(pitches[rest]))
            for fifth in FAR:
                one = check_quick(self, melody.pitch, MOST - 1, fifth)
                check_same(self, melody.after(one, fifth), melody.pitch(MOST, fifth))

    def test_after_any_number(self):
        melody = Melody(Tone(0), UP, Bring(Tone(-1, 2)))
        for pitch in (0, 1, -5, LONG, Ratio(7, 2), Ratio(-1, 3), Ratio(10 ** 60, 7)):
            expected = Fraction(1, 5) + (exact(pitch) + Fraction(3, 5) - Fraction(1, 5)) % 1
            check_same(self, melody.after(pitch, Ratio(3, 5)), ratio_of(expected))
        check_same(self, melody.after(fifth=Ratio(1, 2), pitch=0), Ratio(1, 2))

    def test_a_pitch_that_is_there_already_stays(self):
        stay = Melody(Tone(0), Shift(Tone(0, 1)), Bring(Tone(0, 1)), Shift(Tone(0, 0)))
        for fifth in fifths_to(5):
            # The pitch of the tone itself is in, that an octave above is not.
            check_same(self, [stay.after(0, fifth), stay.after(1, fifth), stay.after(-1, fifth)], [Ratio.of(fifth)] * 3)
            inside = 1 - Ratio(1, 100)
            check_same(self, stay.after(inside, fifth), inside + fifth)

    def test_a_shift_that_is_parted(self):
        whole = Melody(Tone(1, 2), Shift(Tone(3, 1)), Bring(Tone(0, 1)), Shift(Tone(1, 0)))
        parted = Melody(Tone(1, 2), Shift(Tone(1, -4)), Shift(Tone(2, 5)), Bring(Tone(0, 1)), Shift(Tone(-2)), Shift(Tone(3)))
        for fifth in fifths_to(6) + FAR:
            check_same(self, list(whole.played(6, fifth)), list(parted.played(6, fifth)))
        check_same(self, [whole.height == parted.height, whole == parted], [True, False])

    def test_what_is_ahead_of_the_last_bring(self):
        base = Melody(Tone(1, 2), UP, Bring(Tone(0, 1)))
        for more in ([Bring(Tone(5, -3))], [Shift(Tone(7))], [HOME, Shift(Tone(-3)), Bring(Tone(2))]):
            other = Melody(Tone(1, 2), *more, UP, Bring(Tone(0, 1)))
            for fifth in fifths_to(6):
                check_same(self, list(other.played(6, fifth)), list(base.played(6, fifth)))

    def test_asking_refuses_in_order(self):
        melody = melodies()[0]
        long = [Ratio(1, 10 ** 40), Ratio(10 ** 40, 10 ** 40 + 1)]
        for value, fifth in itertools.product(any_values() + [10 ** 40, -1], any_values() + long):
            is_wrong = not Ratio.is_fifth(fifth) or fifth.bottom >= 10 ** 40
            if not Ratio.is_number(value):
                check_raises(self, BadRatio("pitch"), melody.after, value, fifth)
            elif is_wrong:
                check_raises(self, BadFifth(fifth), melody.after, value, fifth)
            if type(value) is not int or not 0 <= value < 10 ** 40:
                check_raises(self, BadNumber(value), melody.pitch, value, fifth)
                check_first_raises(self, BadNumber(value), melody.played, value, fifth)
            elif is_wrong:
                check_raises(self, BadFifth(fifth), melody.pitch, value, fifth)
                check_first_raises(self, BadFifth(fifth), melody.played, value, fifth)

    def test_one_more_move(self):
        melody = Melody(Tone(1), UP, Bring(Tone(0, 2)))
        check_same(self, [melody + HOME == Melody(Tone(1), UP, Bring(Tone(0, 2)), HOME), len(melody)], [True, 2])
        check_same(self, (melody + Shift(Tone(3))).height, Height(Tone(3, 2), Moving(-2)))
        check_raises(self, BadRound("fifths"), lambda: melody + UP)
        check_raises(self, BadRound("height"), lambda: melody + Shift(Tone(21)))
        for value in any_values():
            if not isinstance(value, Move):
                check_raises(self, BadMove(2), lambda: melody + value)

    def test_equal(self):
        made = [(start, moves) for start in (Tone(0), Tone(1)) for moves in ((UP, HOME), (HOME, UP), (UP, HOME, HOME),
                                                                            (UP, Bring(Tone(1))))]
        for (one, moves), (other, told) in itertools.product(made, made):
            expected = one is other and moves is told
            check_same(self, [Melody(one, *moves) == Melody(other, *told), Melody(one, *moves) != Melody(other, *told)],
                       [expected, not expected])
        check_same(self, Melody(Tone(0), Shift(Tone(0, 1)), Bring(Tone(0))) == Melody(Tone(0), UP, HOME), True)
        for value in any_values():
            check_same(self, [Melody(Tone(9), UP, HOME) == value, value == Melody(Tone(9), UP, HOME)], [False, False])


class ComparedTest(unittest.TestCase):
    def test_alike_and_above_for_all_rounds_of_a_keyboard(self):
        made = melodies()[::3]
        for one, other in itertools.product(made, made[::2]):
            alike, above = one.alike(other), one.above(other)
            check_same(self, [alike == Even(one.height, other.height), above == Higher(one.height, other.height)],
                       [True, True])
            for fifth in (Ratio(1, 2), Ratio(3, 5), Ratio(5, 12)):
                rows = zip(played_by(one, fifth.bottom, fifth)[1:], played_by(other, fifth.bottom, fifth)[1:])
                for n, (pitch, second) in enumerate(rows, start=1):
                    check_same(self, [alike(n, fifth), above(n, fifth)], [pitch == second, pitch > second])

    def test_for_all_fifths(self):
        low = Melody(Tone(0), UP, HOME)
        # A melody whose pitches are brought an octave lower is below throughout.
        under = Melody(Tone(0), UP, Bring(Tone(-1)))
        check_same(self, [bool(judge(Each(low.above(under), 1))), bool(judge(Some(low.alike(under), 1)))], [True, False])
        check_same(self, bool(judge(Each(low.alike(Melody(Tone(5), Shift(Tone(3, 1)), HOME)), 1))), True)
        for bring in (Tone(-1, 2), Tone(0, 1), Tone(1, -1)):
            sentence = Each(low.alike(Melody(Tone(0), UP, Bring(bring))), 1)
            region = sentence.region()
            for fifth in fifths_to(11):
                check_same(self, [fifth in region, is_true_at(sentence, fifth)], [self.stay_together(bring, fifth)] * 2)

    def stay_together(self, bring, fifth):
        low, moved = Melody(Tone(0), UP, HOME), Melody(Tone(0), UP, Bring(bring))
        return played_by(low, fifth.bottom, fifth)[1:] == played_by(moved, fifth.bottom, fifth)[1:]

    def test_where_they_part_first(self):
        low, moved = Melody(Tone(0), UP, HOME), Melody(Tone(0), UP, Bring(Tone(-1, 2)))
        for fifth in fifths_to(12):
            rows = list(zip(played_by(low, 30, fifth), played_by(moved, 30, fifth)))
            parted = [n for n, (one, other) in enumerate(rows) if one != other]
            check_same(self, first_n(Not(low.alike(moved)), fifth, 1), parted[0] if parted else None)
        for fifth in FAR:
            n = check_quick(self, first_n, Not(low.alike(moved)), fifth, 1)
            check_same(self, [low.pitch(n, fifth) == moved.pitch(n, fifth), low.pitch(n - 1, fifth) == moved.pitch(n - 1, fifth)],
                       [False, True])

    def at_height(self, number, fifths):
        """A melody whose height has this term number and this tone."""
        return Melody(Tone(0, number + fifths), UP, Bring(Tone(0, fifths)))

    def test_refuses(self):
        other = self.at_height(-12, 0)
        for value in any_values():
            if not isinstance(value, Melody):
                check_raises(self, BadRound("other"), other.alike, value)
                check_raises(self, BadRound("other"), other.above, other=value)
        # The marks are -12, 12 and k + 24, k being the fifths of the first tone.
        melody = self.at_height(12, 12)
        check_same(self, [melody.alike(other).marks, melody.above(other=other).span], [(-12, 0, 12, 36), 48])
        melody = self.at_height(12, 13)
        for call in (melody.alike, melody.above):
            check_raises(self, TooMany("span", 48), call, other)


if __name__ == "__main__":
    unittest.main()
