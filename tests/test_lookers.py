import itertools
import unittest

from anyfifth import lookers
from anyfifth.errors import BadFifth, BadNumber, BadPiece, BadRegion, BadSaying, Meets, TooMany
from anyfifth.firsts import first_n, nth
from anyfifth.lookers import region_of, shows_first, shows_part, shows_region, shows_ring, shows_verdict
from anyfifth.pieces import Piece, pieces_to
from anyfifth.ratios import Ratio
from anyfifth.regions import Region
from anyfifth.rings import Ring
from anyfifth.sayings import All, Any, At, Below, Between, Not, Saying
from anyfifth.sentences import Each, Fails, Holds, Sentence, Some, judge, paper
from anyfifth.tallies import Part, settled, tally
from anyfifth.terms import Moving, Note
from anyfifth.tones import Tone
from tests import said
from tests.said import holds, is_true_at, sentences, some_sayings
from tests.support import (
    all_pieces, any_values, check_examples, check_quick, check_raises, check_same, fifths_to, some_wide_regions)

EXAMPLES = """
>>> from anyfifth.lookers import region_of, shows_first, shows_part, shows_region, shows_ring, shows_verdict
>>> [shows_ring(piece, [1, 2], (0, 2, 1)), shows_ring(piece, [1, 2], (0, 1, 2)), shows_ring(Piece.whole(), [2], (0, 2))]
[True, False, False]
>>> shows_part(two, Part(piece, 1, 0, 0, Tone(1, -1)), (0, 2, 1))
True
>>> some, rows = Some(two), ((Piece(0, Ratio(1, 2)), (0, 1, 2)), (piece, (0, 2, 1)))
>>> [rows == paper(some), shows_region(some, Region.stretch(Ratio(1, 2), 1), rows), region_of(some, rows[1:])]
[True, True, None]
>>> [shows_verdict(some, None, Fails(Ratio(2, 5), None, None), rows), shows_verdict(some, Region.stretch(Ratio(1, 2), 1), Holds(), rows), shows_first(inside, Ratio(5, 12), 0, 15)]
[True, True, False]
"""

LONG = 10 ** 39 + 7
FAR_FIFTHS = [Ratio(LONG, 2 * LONG + 1), Ratio(1, LONG), Ratio(LONG - 1, LONG), Ratio(10 ** 39, 3 * 10 ** 39 + 1)]
INSIDE = Between(Note(0), Moving(0), Note(1))
TWO = INSIDE & ~Between(Note(0), Moving(0), Note(2))
SIX = All(All(All(All(All(INSIDE)))))
HALF, WHOLE = Ratio(1, 2), Piece.whole()
LOW, HIGH = WHOLE.halves
ROWS = ((LOW, (0, 1, 2)), (HIGH, (0, 2, 1)))
BARE = Region.leaf(False, False, False, False, True)


def is_ring(piece, numbers, order):
    """Whether an order is right, by the keys of fractions in the piece where all marks that meet can be seen."""
    marks = sorted(set(numbers) | {0})
    if sorted(order) != marks or order[0] != 0:
        return False
    for fifth in fifths_to(14) + [piece.ratio(8, 5), piece.middle]:
        if fifth in piece:
            keys = [mark * fifth.top % fifth.bottom for mark in order]
            if any(one >= other for one, other in zip(keys, keys[1:])):
                return False
    return True


class RingTest(unittest.TestCase):
    def test_examples(self):
        names = {}
        exec("from anyfifth.ratios import Ratio\nfrom anyfifth.pieces import Piece\nfrom anyfifth.tones import Tone\n"
             "from anyfifth.regions import Region\nfrom anyfifth.terms import Moving, Note\n"
             "from anyfifth.sayings import Between\nfrom anyfifth.tallies import Part\n"
             "from anyfifth.sentences import Fails, Holds, Some, paper\npiece = Piece(Ratio(1, 2), 1)\n"
             "inside = Between(Note(0), Moving(0), Note(1))\n"
             "two = inside & ~Between(Note(0), Moving(0), Note(2))", names)
        check_examples(self, EXAMPLES, names)

    def test_all_orders_on_many_pieces(self):
        for piece in all_pieces(5) + [Piece(Ratio(LONG - 1, LONG), 1)]:
            for numbers in ([1], [2, 1], [-1, 3], [5, 2, -4], [1, 2, 3]):
                for order in itertools.permutations([0] + numbers):
                    check_same(self, shows_ring(piece, numbers, order), is_ring(piece, numbers, order))

    def test_rings(self):
        for piece in all_pieces(5):
            for numbers in ([], [0], [0, 3, 3, -7], [12, -12, 7], list(range(-3, 4)), [48, -48], [-48, -47, 48]):
                try:
                    order = Ring(piece, *numbers).order
                except Meets:
                    self.assertFalse(shows_ring(piece, numbers, tuple(sorted(set(numbers) | {0}))))
                    continue
                check_same(self, [shows_ring(piece, numbers, order), shows_ring(piece, tuple(numbers), order),
                                  shows_ring(order=order, numbers=numbers[::-1], piece=piece)], [True] * 3)
                self.check_others(piece, numbers, order)

    def check_others(self, piece, numbers, order):
        """The same with one thing otherwise is not shown."""
        for at in range(1, len(order)):
            turned = order[at:] + order[:at]
            others = [turned, order[:at] + order[at + 1:], order + (order[at],), order[:at] + (order[at - 1],) + order[at:]]
            others.extend([list(order), order[::-1]] if len(order) > 2 else [list(order)])
            others.append(order[:at] + (Ratio(order[at]),) + order[at + 1:])
            for one in range(1, at):
                exchanged = list(order)
                exchanged[at], exchanged[one] = order[one], order[at]
                others.append(tuple(exchanged))
            for other in others:
                check_same(self, shows_ring(piece, numbers, other), False)
        check_same(self, [shows_ring(piece, [*numbers, 20], order), shows_ring(piece, numbers, order + (20,)),
                          shows_ring(piece, numbers, (order,)), shows_ring(piece, numbers, (False,) + order[1:])],
                   [False] * 4)

    def test_any_values(self):
        for numbers, order in itertools.product(any_values(), any_values()):
            check_same(self, shows_ring(WHOLE, numbers, order), False)
            for value in any_values()[::7]:
                if not isinstance(value, Piece):
                    check_raises(self, BadPiece("piece"), shows_ring, value, numbers, order)
        for value in any_values() + [49, -49, Ratio(1), "1"]:
            if type(value) is not int or not -48 <= value <= 48:
                check_same(self, [shows_ring(LOW, [1, value], (0, 1)), shows_ring(LOW, (value,), (0,))], [False, False])
            if value not in ([], ()):
                check_same(self, shows_ring(LOW, value, (0,)), False)
            if not isinstance(value, Piece):
                check_raises(self, BadPiece("piece"), shows_ring, value, [], (0,))
        check_same(self, [shows_ring(WHOLE, [], (0,)), shows_ring(WHOLE, (), (0,)), shows_ring(WHOLE, [0, 0], (0,)),
                          shows_ring(WHOLE, {}, (0,)), shows_ring(WHOLE, "", (0,)), shows_ring(WHOLE, [], ()),
                          shows_ring(WHOLE, [1], (0, True)), shows_ring(WHOLE, [True], (0, 1)),
                          shows_ring(WHOLE, [-1], (0, -1)), shows_ring(WHOLE, [1] * 2000, (0, 1))],
                   [True, True, True, False, False, False, False, False, True, True])

    def test_numbers_of_48_and_49(self):
        for piece in (Piece(0, Ratio(1, 60)), Piece(Ratio(59, 60), 1)):
            for number, is_let in ((48, True), (-48, True), (49, False), (-49, False)):
                found = [shows_ring(piece, [number], (0, number)), shows_ring(piece, [0, number], (0, number))]
                check_same(self, found, [is_let, is_let])

    def test_arguments_stay(self):
        numbers = [2, 1, 2]
        shows_ring(HIGH, numbers, (0, 2, 1))
        check_same(self, numbers, [2, 1, 2])


class PartTest(unittest.TestCase):
    def test_each_part_of_tallies_on_settled_pieces(self):
        for saying in some_sayings()[::3]:
            found, marks = tally(saying), saying.marks
            for piece in list(settled(saying))[::3]:
                ring = Ring(piece, *marks)
                part = self.part_on(saying, found, piece)
                check_same(self, shows_part(saying, part, ring.order), True)
                check_same(self, shows_part(order=ring.order, value=part, saying=saying), True)
                self.check_others(saying, part, ring.order)

    def part_on(self, saying, found, piece):
        """The Part of a tally on a piece that lies in the piece of one, by its counts and its share."""
        around = found.part_at(piece.middle)
        one, left, right = [found(piece.ratio(u, v)) for u, v in ((1, 1), (2, 1), (1, 2))]
        self.assertTrue(piece <= around.piece)
        return Part(piece, left - one, right - one, 3 * one - left - right, around.share)

    def check_others(self, saying, part, order):
        piece, x, y, z, share = part.piece, part.x, part.y, part.z, part.share
        left, right = piece.halves
        others = [Part(left, x, y, z, share), Part(right, x, y, z, share), Part(None, x, y, z, share),
                  Part(str(piece), x, y, z, share), Part((piece.left, piece.right), x, y, z, share),
                  Part(piece, x + 1, y, z, share), Part(piece, x, y - 1, z, share), Part(piece, x, y, z + 1, share),
                  Part(piece, Ratio(x), y, z, share), Part(piece, x, Ratio(y), z, share), Part(piece, x, y, str(z), share),
                  Part(piece, x, y, z, share + Tone(0, 1)), Part(piece, x, y, z, share - Tone(1)),
                  Part(piece, x, y, z, (share.octaves, share.fifths)), Part(piece, x, y, z, None)]
        for field, value in (("x", x), ("y", y), ("z", z)):
            if value in (0, 1):
                fields = dict(vars(part))
                fields[field] = value == 1
                others.append(Part(**fields))
        # On the halves it has (x, x + y) and (x + y, y) instead of (x, y).
        expected = [x == 0, y == 0] + [False] * (len(others) - 2)
        check_same(self, [shows_part(saying, other, order) for other in others], expected)
        for told in (list(order), order[::-1] + (0,), order[1:] + order[:1], order[:-1], None, "", (order,)):
            if told != order:
                check_same(self, shows_part(saying, part, told), False)

    def test_more_marks_than_those_of_the_saying(self):
        part = Part(HIGH, 0, 1, -1, Tone(0, 1))
        check_same(self, [shows_part(INSIDE, Part(WHOLE, 0, 1, -1, Tone(0, 1)), (0, 1)), shows_part(INSIDE, part, (0, 2, 1)),
                          shows_part(INSIDE, Part(HIGH, 1, 1, -1, Tone(0, 1)), (0, 1)),
                          shows_part(TWO, Part(WHOLE, 0, 1, -1, Tone(0, 1)), (0, 1))], [True, False, True, False])

    def test_any_values(self):
        for saying, value in itertools.product(any_values(), any_values()):
            if not isinstance(saying, Saying):
                check_raises(self, BadSaying("saying"), shows_part, saying, value, value)
        for value, order in itertools.product(any_values(), any_values()):
            expected = value == Part(WHOLE, 1, 1, 0, Tone(1)) and isinstance(value, Part) and order == (0,)
            check_same(self, shows_part(All(), value, order), bool(expected))
        for given in itertools.product([WHOLE, None, [1]], [1, True, "1"], [1, [], Ratio(1)], [0, False], [Tone(1), (1, 0)]):
            is_right = given[:4] == (WHOLE, 1, 1, 0) and [type(one) for one in given[1:4]] == [int] * 3 and given[4] == Tone(1)
            check_same(self, shows_part(All(), Part(*given), (0,)), is_right)


class PaperTest(unittest.TestCase):
    def test_papers(self):
        for sentence in sentences([None, 1, -4, LONG])[::2] + [Each(SIX), Some(SIX, 3), Each(said.widest(), 1)]:
            rows = paper(sentence)
            region = region_of(sentence, rows)
            self.assertIs(type(region), Region)
            check_same(self, [region == sentence.region(), shows_region(sentence, region, rows),
                              shows_region(sentence, ~region, rows)], [True, True, False])
        check_same(self, [region_of(rows=ROWS, sentence=Some(TWO)) == Region.stretch(HALF, 1),
                          shows_region(rows=ROWS, value=Region.stretch(HALF, 1), sentence=Some(TWO))], [True, True])

    def test_papers_that_are_finer_than_they_must_be(self):
        for sentence in sentences([None, 2])[::13] + [Each(SIX)]:
            marks = sentence.saying.marks
            for most in (3, 9, 48):
                pieces = list(pieces_to(most))
                rows = []
                for piece in pieces:
                    # Below the bounds of the keyboards a piece may have to be parted further.
                    for inner in self.parted(piece, sentence.saying):
                        rows.append((inner, Ring(inner, *marks).order))
                check_same(self, region_of(sentence, tuple(rows)) == sentence.region(), True)

    def parted(self, piece, saying):
        around = [one for one in settled(saying) if one <= piece]
        return around if around else [piece]

    def test_ends_of_bottoms_48_and_49(self):
        for many, is_paper in ((48, True), (49, False)):
            low = Ratio(1, many)
            for pieces in ([Piece(0, low)] + [Piece(Ratio(1, k + 1), Ratio(1, k)) for k in range(many - 1, 0, -1)],
                           [Piece(Ratio(k - 1, k), Ratio(k, k + 1)) for k in range(1, many)] + [Piece(1 - low, 1)]):
                rows = tuple([(piece, (0, 1)) for piece in pieces])
                found = region_of(Some(INSIDE), rows)
                check_same(self, found is not None and found == Some(INSIDE).region(), is_paper)
                check_same(self, [shows_region(Some(INSIDE), Some(INSIDE).region(), rows),
                                  shows_verdict(Some(INSIDE), None, Fails(HALF, None, None), rows)], [is_paper] * 2)

    def others(self):
        """What is like the paper ROWS of TWO, but none."""
        low, high = ROWS
        left, right = HIGH.halves
        return [(), ROWS[1:], ROWS[:1], ROWS[::-1], ROWS + (high,), (low,) + ROWS, (low, low, high), list(ROWS), (ROWS,),
                (list(low), high), (low, list(high)), (low + (None,), high), (low[:1], high), ((), high), (low, None),
                (low, "ab"), ((LOW, [0, 1, 2]), high), ((LOW, (0, 2, 1)), high), ((LOW, (1, 2, 0)), high),
                ((LOW, (0, 1, 2, 3)), high), ((LOW, (0, 1)), high), ((LOW, (0, True, 2)), high), (((0, 1, 2), LOW), high),
                ((str(LOW), (0, 1, 2)), high), (low, (left, (0, 2, 1))), (low, (right, (0, 2, 1))),
                (low, (right, (0, 2, 1)), (left, (0, 2, 1))), ((WHOLE, (0, 1, 2)),), ((WHOLE, (0, 2, 1)),),
                ((LOW, None), high), ROWS[:1] * 2, ROWS * 1500, ROWS[:1] * 3000, ROWS[:1] * 3001, list(ROWS) * 1500,
                {"rows": ROWS}]

    def test_what_is_no_paper(self):
        some, region = Some(TWO), Region.stretch(HALF, 1)
        left, right = HIGH.halves
        finer = (ROWS[0], (left, (0, 2, 1)), (right, (0, 2, 1)))
        check_same(self, [shows_region(some, region, ROWS), shows_region(some, region, finer)], [True, True])
        for rows in self.others() + any_values():
            check_same(self, [region_of(some, rows), shows_region(some, region, rows),
                              shows_verdict(some, None, Fails(Ratio(2, 5), None, None), rows),
                              shows_verdict(some, region, Holds(), rows)], [None, False, False, False])
        # The paper of one saying is none of another one with more marks.
        check_same(self, [region_of(Some(INSIDE), ROWS), region_of(some, paper(Some(INSIDE)))], [None, None])

    def test_values_that_are_no_regions(self):
        region = Region.stretch(HALF, 1)
        for value in any_values() + [str(region), region.mirrored(), region | Region.only(HALF), list(region.parts())]:
            check_same(self, shows_region(Some(TWO), value, ROWS), False)
        check_same(self, shows_region(Some(All()), Region.every(), ((WHOLE, (0,)),)), True)

    def test_refuses(self):
        for value in any_values():
            if not isinstance(value, Sentence):
                check_raises(self, BadSaying("sentence"), region_of, value, ROWS)
                check_raises(self, BadSaying("sentence"), shows_region, value, None, ROWS)
                for where in any_values():
                    check_raises(self, BadSaying("sentence"), shows_verdict, value, where, Holds(), ROWS)
            if value is not None and not isinstance(value, Region):
                for rows in (ROWS, None):
                    check_raises(self, BadRegion(value), shows_verdict, Some(TWO), value, Holds(), rows)

    def test_a_denial_that_may_not_be_made(self):
        sentence = Each(SIX, 2)
        check_raises(self, TooMany("deep", 6), lambda: ~sentence)
        region = region_of(sentence, paper(sentence))
        check_same(self, [fifth in region for fifth in fifths_to(9)], [is_true_at(sentence, fifth) for fifth in fifths_to(9)])

    def test_arguments_stay(self):
        rows = [list(ROWS[0]), ROWS[1]]
        region_of(Some(TWO), rows)
        check_same(self, rows, [list(ROWS[0]), ROWS[1]])

    def test_quick(self):
        for made in (Some, Each):
            sentence = made(said.widest(), 5)
            rows = paper(sentence)
            region = check_quick(self, region_of, sentence, rows)
            check_same(self, check_quick(self, shows_region, sentence, region, rows), True)
            verdict = judge(sentence)
            check_same(self, check_quick(self, shows_verdict, sentence, None, verdict, rows), True)


class VerdictTest(unittest.TestCase):
    def test_the_verdicts_of_judge(self):
        wheres = some_wide_regions()
        for at, sentence in enumerate(sentences([None, 1, -4, LONG])[::2]):
            rows = paper(sentence)
            for where in [None] + wheres[at % 13::13]:
                verdict = judge(sentence, where)
                check_same(self, shows_verdict(sentence, where, verdict, rows), True)
                self.check_others(sentence, where, verdict, rows)

    def check_others(self, sentence, where, verdict, rows):
        """Verdicts of other kinds are not shown."""
        if isinstance(verdict, Holds):
            others = [Fails(HALF, 0, None), Fails(HALF, None, None), Fails(None, None, WHOLE), Fails(None, None, None)]
        elif verdict.fifth is None:
            others = [Holds(), Fails(None, 0, verdict.piece), Fails(None, None, None), Fails(HALF, None, verdict.piece),
                      Fails(None, None, str(verdict.piece)), Fails(verdict.piece.middle, None, None),
                      Fails(verdict.piece.middle, 0, None)]
        else:
            fifth, n = verdict.fifth, verdict.n
            others = [Holds(), Fails(fifth, n, WHOLE), Fails(None, n, None), Fails(None, None, WHOLE), Fails(str(fifth), n, None)]
            others.extend([Fails(fifth, "n", None), Fails(fifth, True, None), Fails(fifth, Ratio(5), None), Fails(fifth, [], None)])
            others.append(Fails(fifth, 0, None) if n is None else Fails(fifth, None, None))
            if sentence.start is not None and n is not None:
                others.append(Fails(fifth, n - (n - sentence.start) // fifth.bottom * fifth.bottom - fifth.bottom, None))
        for other in others:
            check_same(self, shows_verdict(sentence, where, other, rows), False)

    def test_other_fractions_and_other_numbers(self):
        sentence, where = Each(Not(INSIDE), -2), Region.stretch(0, HALF)
        rows = paper(sentence)
        for fifth in fifths_to(9):
            for n in range(-5, 2 * fifth.bottom):
                fails = holds(INSIDE, n, fifth.top, fifth.bottom)
                expected = fifth < HALF and n >= -2 and fails
                check_same(self, shows_verdict(sentence, where, Fails(fifth, n, None), rows), expected)
        far = FAR_FIFTHS[0]
        for n in (10 ** 60 - 1, LONG, nth(INSIDE, far, LONG)):
            check_same(self, shows_verdict(sentence, where, Fails(far, n, None), rows), holds(INSIDE, n, far.top, far.bottom))
        check_same(self, shows_verdict(Each(Not(INSIDE)), None, Fails(Ratio(2, 5), -2, None), rows), True)
        some = Some(INSIDE)
        for fifth in fifths_to(9) + FAR_FIFTHS:
            check_same(self, shows_verdict(some, None, Fails(fifth, None, None), paper(some)), not some(fifth))
            check_same(self, shows_verdict(some, Region.only(HALF), Fails(fifth, None, None), paper(some)), fifth == HALF)

    def test_pieces_without_fractions(self):
        again, rows = Some(At(Moving(0), Note(0)), 1), ((WHOLE, (0,)),)
        third = Ratio(1, 3)
        for where, low, high in ((None, 0, 1), (BARE, 0, 1), (Region.stretch(HALF, 1), HALF, 1),
                                 (Region.stretch(third, HALF) & BARE, third, HALF), (~Region.only(Ratio(2, 5)), 0, 1)):
            for piece in all_pieces(6) + [Piece(Ratio(LONG - 1, LONG), 1)]:
                expected = low <= piece.left and piece.right <= high
                check_same(self, shows_verdict(again, where, Fails(None, None, piece), rows), expected)
        # Where it is false at a fraction, too, only that fraction is told.
        held = Some(At(Moving(0), Note(0)) & INSIDE, 1)
        check_same(self, shows_verdict(held, None, Fails(None, None, WHOLE), paper(held)), False)

    def test_on_no_fifths(self):
        for sentence in (Some(Any()), Each(Any()), Some(All())):
            rows = ((WHOLE, (0,)),)
            check_same(self, [shows_verdict(sentence, Region.none(), Holds(), rows),
                              shows_verdict(sentence, Region.none(), Fails(HALF, None, None), rows),
                              shows_verdict(sentence, Region.none(), Fails(None, None, WHOLE), rows)], [True, False, False])

    def test_any_values(self):
        for value in any_values():
            expected = isinstance(value, Holds)
            check_same(self, shows_verdict(Each(All()), None, value, ((WHOLE, (0,)),)), expected)
        values = any_values()
        for at in range(len(values)):
            for given in ((values[at], values[at - 1], values[at - 2]), (HALF, values[at], None), (values[at], None, None),
                          (None, None, values[at])):
                is_right = given == (HALF, None, None) and given[1] is None
                check_same(self, shows_verdict(Some(Any()), Region.only(HALF), Fails(*given), ((WHOLE, (0,)),)), is_right)

    def test_too_many_exactly_if_the_difference_raises_it(self):
        chains = ~Region.only(*[Ratio(199 - at, (199 - at) * (at + 2) + 1) for at in range(10)])
        told = Some(At(Moving(-12), Note(12)) & At(Moving(12), Note(-12)))
        raised = 0
        for sentence, where in itertools.product([told, ~told, Each(INSIDE)], [chains, chains.mirrored(), ~chains]):
            rows = paper(sentence)
            for value in (Holds(), Fails(HALF, None, None), None):
                try:
                    where - sentence.region()
                except TooMany as error:
                    raised += 1
                    check_raises(self, error, shows_verdict, sentence, where, value, rows)
                    check_same(self, shows_verdict(sentence, where, value, rows[1:]), False)
                else:
                    self.assertIn(shows_verdict(sentence, where, value, rows), (True, False))
        self.assertGreater(raised, 0)


class FirstTest(unittest.TestCase):
    def test_the_right_number_alone(self):
        for saying in some_sayings()[::5] + [Any(), All()]:
            for fifth in fifths_to(6) + [Ratio(5, 12), Ratio(20, 49)]:
                for start in (0, -7, 5, LONG):
                    n = first_n(saying, fifth, start)
                    if n is None:
                        check_same(self, [shows_first(saying, fifth, start, None), shows_first(saying, fifth, start, start)],
                                   [True, False])
                        continue
                    told = [n, n + 1, n - 1, n + fifth.bottom, n - fifth.bottom, start - 1, None]
                    check_same(self, [shows_first(saying, fifth, start, value) for value in told], [True] + [False] * 6)
        check_same(self, shows_first(value=3, start=0, fifth=Ratio(5, 12), saying=INSIDE), True)

    def test_far_on(self):
        many = 10 ** 70 + 1
        for fifth in FAR_FIFTHS + [Ratio(many // 2, many), Ratio(1, many), Ratio(many - 1, many)]:
            for start in (0, LONG, -10 ** 59, 10 ** 60 - 1):
                p, q = fifth.top, fifth.bottom
                n = start + (5 - start) % q
                saying = At(Moving(0), Note(5))
                told = [n, n + 1, n + q, n - q, None, start]
                found = check_quick(self, lambda: [shows_first(saying, fifth, start, value) for value in told])
                check_same(self, found, [True, False, False, False, False, start == n])
                check_same(self, shows_first(INSIDE, fifth, start, None), p == 1)
                below = Below(Note(0), Moving(0))
                n = start if start % q else start + 1
                check_same(self, [shows_first(below, fifth, start, n), shows_first(below, fifth, start, n + 1)], [True, False])

    def test_any_values(self):
        fifth = Ratio(5, 12)
        for value in any_values() + [Ratio(3), "3", [3], (3,)]:
            check_same(self, shows_first(INSIDE, fifth, 3, value), False)
            check_same(self, shows_first(Any(), fifth, 0, value), value is None)
            check_same(self, shows_first(All(), fifth, 1, value), value == 1 and type(value) is int)

    def test_refuses_in_order(self):
        fifths = any_values()[::3] + [Ratio(5, 12)]
        for saying, fifth, start in itertools.product(any_values()[::3] + [TWO], fifths, any_values()):
            if not isinstance(saying, Saying):
                expected = BadSaying("saying")
            elif not Ratio.is_fifth(fifth):
                expected = BadFifth(fifth)
            elif type(start) is not int:
                expected = BadNumber(start)
            else:
                continue
            check_raises(self, expected, shows_first, saying, fifth, start, 0)

    def test_each_function_stands_in_its_file(self):
        for name in ("region_of", "shows_first", "shows_part", "shows_region", "shows_ring", "shows_verdict"):
            self.assertEqual(getattr(lookers, name).__module__, "anyfifth.lookers")


if __name__ == "__main__":
    unittest.main()
