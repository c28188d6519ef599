import itertools
import unittest

from anyfifth.errors import BadFifth, BadNumber, BadRegion, BadSaying, TooMany
from anyfifth.pieces import Piece, ratio_by
from anyfifth.ratios import Ratio
from anyfifth.regions import Region
from anyfifth.sayings import All, Any, At, Below, Between, Not, Saying
from anyfifth.sentences import Each, Fails, Holds, Sentence, Some, Verdict, judge, paper
from anyfifth.tallies import settled
from anyfifth.terms import Moving, Note
from tests import said
from tests.said import comparisons, holds, is_true_at, marks_of, sentences, some_sayings, truth_beside
from tests.support import (
    any_values, check_examples, check_quick, check_raises, check_same, fifths_to, some_wide_regions)

EXAMPLES = """
>>> from anyfifth.sentences import Each, Fails, Holds, Some, judge, paper
>>> [Some(inside).region() == Region.leaf(False, False, True, True, True), (~Some(inside)).region() == Region.leaf(True, True, False, False, False), Some(inside)(Ratio(1, 5)), Some(inside)(Ratio(2, 5))]
[True, True, False, True]
>>> [judge(Some(inside)) == Fails(Ratio(1, 2), None, None), judge(Each(Not(inside)), Region.stretch(0, Ratio(1, 2))) == Fails(Ratio(2, 5), 3, None), bool(judge(Each(All())))]
[True, True, True]
>>> again = Some(At(Moving(0), Note(0)), 1)
>>> [again.region() == Region.rational(), judge(again) == Fails(None, None, Piece.whole()), Some(At(Moving(0), Note(-2)), 0).region() == Region.rational(), bool(judge(Some(At(Moving(0), Note(-2)))))]
[True, True, True, True]
>>> [(str(piece), order) for piece, order in paper(Some(two))]
[('0/1 1/2', (0, 1, 2)), ('1/2 1/1', (0, 2, 1))]
"""

LONG = 10 ** 39 + 7
FAR_FIFTHS = [Ratio(LONG, 2 * LONG + 1), Ratio(1, LONG), Ratio(LONG - 1, LONG), Ratio(10 ** 39, 3 * 10 ** 39 + 1)]
STARTS = [None, 0, 1, -1, 3, -7, LONG, -LONG, 10 ** 40 - 1, 1 - 10 ** 40]
INSIDE = Between(Note(0), Moving(0), Note(1))
TWO = INSIDE & ~Between(Note(0), Moving(0), Note(2))
SIX = Not(Not(Not(Not(Not(INSIDE)))))
# A region with almost as many parts as there may be: it lacks ten fractions with many levels each.
CHAINS = ~Region.only(*[ratio_by(quotient, 200 - quotient) for quotient in range(2, 12)])


class SentenceTest(unittest.TestCase):
    def test_examples(self):
        names = {}
        exec("from anyfifth.ratios import Ratio\nfrom anyfifth.pieces import Piece\n"
             "from anyfifth.regions import Region\nfrom anyfifth.terms import Moving, Note\n"
             "from anyfifth.sayings import All, At, Between, Not\ninside = Between(Note(0), Moving(0), Note(1))\n"
             "two = inside & ~Between(Note(0), Moving(0), Note(2))", names)
        check_examples(self, EXAMPLES, names)

    def test_made(self):
        for made, start in itertools.product((Some, Each), STARTS):
            for sentence in (made(INSIDE, start), made(start=start, saying=INSIDE)):
                self.assertTrue(sentence.saying is INSIDE and isinstance(sentence, Sentence))
                check_same(self, sentence.start, start)
        check_same(self, [Some(INSIDE).start, Each(INSIDE).start], [None, None])

    def test_made_of_wrong_values(self):
        for made, saying, start in itertools.product((Some, Each), any_values(), any_values() + [10 ** 40, -10 ** 40]):
            if not isinstance(saying, Saying):
                check_raises(self, BadSaying("saying"), made, saying, start)
            elif start is not None and (type(start) is not int or abs(start) >= 10 ** 40):
                check_raises(self, BadNumber(start), made, saying, start)
            else:
                check_same(self, made(saying, start).start, start)

    def test_true_at_fractions_against_keys(self):
        for sentence in sentences(STARTS)[::2]:
            for fifth in fifths_to(9):
                check_same(self, sentence(fifth), is_true_at(sentence, fifth))
        check_same(self, Some(INSIDE)(fifth=Ratio(2, 5)), True)

    def test_true_at_far_fractions(self):
        # Beside 0 there is note 1 alone at key 1; each saying holds at a key that is told here.
        for many in (10 ** 20, LONG, 10 ** 60):
            low, high = Ratio(1, many), Ratio(many - 1, many)
            check_same(self, [Some(INSIDE)(low), Some(INSIDE)(high), Each(~INSIDE)(low), Each(~INSIDE)(high)],
                       [False, True, True, False])
            check_same(self, [Each(Below(Note(0), Moving(0)) | At(Moving(0), Note(0)), 5)(low),
                              Each(Below(Note(0), Moving(0)), 5)(low)], [True, False])
        for sentence in sentences([None, 2, LONG])[::3]:
            for fifth in FAR_FIFTHS:
                check_same(self, sentence(fifth), fifth in sentence.region())

    def test_fractions_are_refused(self):
        for sentence in (Some(INSIDE), Each(SIX, -3)):
            for value in any_values() + [Ratio(0), Ratio(1)]:
                if not Ratio.is_fifth(value):
                    check_raises(self, BadFifth(value), sentence, value)

    def test_denied(self):
        for saying, start in itertools.product([INSIDE, TWO, Not(TWO), All(), Not(All(TWO))], STARTS):
            for sentence, other in ((Some(saying, start), Each), (Each(saying, start), Some)):
                denied = ~sentence
                self.assertIs(type(denied), other)
                check_same(self, [denied.saying == ~saying, denied.start], [True, start])
                check_same(self, [denied.region() == ~sentence.region(), (~denied) == sentence], [True, True])
        check_same(self, (~Some(SIX)).saying is SIX.saying, True)
        deep = All(All(All(All(All(INSIDE)))))
        check_same(self, deep.deep, 6)
        for made in (Some, Each):
            check_raises(self, TooMany("deep", 6), lambda: ~made(deep, 4))

    def test_equal(self):
        made = [(one, saying, start) for one in (Some, Each) for saying in (INSIDE, TWO, ~TWO, All(TWO))
                for start in (None, 0, 1, LONG)]
        for (one, saying, start), (other, told, begin) in itertools.product(made, made):
            expected = one is other and saying is told and start == begin and (start is None) == (begin is None)
            check_same(self, [one(saying, start) == other(told, begin), one(saying, start) != other(told, begin)],
                       [expected, not expected])
        check_same(self, Some(Between(Note(0), Moving(0), Note(1)), 1) == Some(INSIDE, 1), True)
        for value in any_values():
            check_same(self, [Some(TWO, 9) == value, value == Some(TWO, 9)], [False, False])

    def test_each_method_stands_in_the_class(self):
        for name in ("__call__", "region", "__invert__", "__eq__"):
            self.assertIn(name, vars(Sentence))
        for name, one in itertools.product(("__init__", "region"), (Some, Each)):
            self.assertIn(name, vars(one))
        for name in ("__bool__", "__eq__"):
            self.assertIn(name, vars(Verdict))
        for one in (Sentence, Some, Each, Verdict, Holds, Fails, judge, paper):
            self.assertEqual(one.__module__, "anyfifth.sentences")


class RegionTest(unittest.TestCase):
    def test_at_all_fractions(self):
        for sentence in sentences(STARTS)[::2]:
            region = sentence.region()
            self.assertIs(type(region), Region)
            for fifth in fifths_to(13):
                check_same(self, fifth in region, is_true_at(sentence, fifth))

    def test_at_spots_of_all_parts(self):
        for sentence in sentences([None, 1, -4, LONG])[::5] + [Some(said.widest()), Each(said.widest(), 2)]:
            for piece, truths in list(sentence.region().parts())[::3]:
                spots = [(1, 1), (2, 1), (1, 2), (2, 3)], [(3, 1), (1, 3), (3, 2)]
                for u, v in spots[0] + spots[1]:
                    fifth = piece.ratio(u, v)
                    if fifth.bottom < 90:
                        told = truths[0 if u == v else 1 if v == 1 else 2 if u == 1 else 3]
                        check_same(self, told, is_true_at(sentence, fifth))

    def test_where_there_is_no_fraction(self):
        for sentence in sentences(STARTS)[::2]:
            for piece, truths in sentence.region().parts():
                check_same(self, truths[4], truth_beside(sentence, piece))
        widest = said.widest()
        for sentence in (Some(widest, 20), Each(~widest), Each(widest, -LONG)):
            for piece, truths in list(sentence.region().parts())[::4]:
                check_same(self, truths[4], truth_beside(sentence, piece))

    def test_least_trees(self):
        # The region is the same one, however it is told.
        for sentence in sentences([None, 1])[::6]:
            region = sentence.region()
            check_same(self, Region.read(str(region)) == region, True)

    def test_starts_matter_without_fractions_alone(self):
        for saying in some_sayings()[::4]:
            for made in (Some, Each):
                base = made(saying).region()
                for start in STARTS[1:]:
                    other = made(saying, start).region()
                    check_same(self, (base ^ other) & Region.rational() == Region.none(), True)
                    if start == 1 - 10 ** 40:
                        check_same(self, base == other, True)

    def test_starts_at_the_marks(self):
        for mark in (-24, -7, 0, 3, 24):
            saying = At(Moving(max(-mark // 2, -12)), Note(mark + max(-mark // 2, -12)))
            for start in range(mark - 2, mark + 3):
                expected = Region.every() if start <= mark else Region.rational()
                check_same(self, Some(saying, start).region() == expected, True)
                check_same(self, Each(Not(saying), start).region() == ~expected, True)

    def test_quick(self):
        for made in (Some, Each):
            region = check_quick(self, made(said.widest(), LONG).region)
            self.assertGreater(len(region), 0)
        check_quick(self, lambda: [Some(said.widest())(fifth) for fifth in FAR_FIFTHS])


class JudgeTest(unittest.TestCase):
    def expected(self, sentence, where):
        """The verdict by the fractions that the region lacks, and by keys."""
        missed = where - sentence.region()
        if missed == Region.none():
            return Holds()
        listed = list(missed.listed(60))
        if listed:
            fifth = listed[0]
            if isinstance(sentence, Some):
                return Fails(fifth, None, None)
            start = sentence.start or 0
            n = next(n for n in itertools.count(start) if not holds(sentence.saying, n, fifth.top, fifth.bottom))
            return Fails(fifth, n, None)
        return Fails(None, None, next(piece for piece, truths in missed.parts() if truths[4]))

    def check(self, verdict, expected):
        self.assertIs(type(verdict), type(expected))
        check_same(self, vars(verdict), vars(expected))
        check_same(self, [bool(verdict), verdict == expected], [isinstance(expected, Holds), True])

    def test_on_all_fifths(self):
        for sentence in sentences(STARTS):
            verdict = judge(sentence)
            self.check(verdict, self.expected(sentence, Region.every()))
            check_same(self, judge(sentence, None) == verdict, True)
        self.check(judge(where=None, sentence=Some(INSIDE)), Fails(Ratio(1, 2), None, None))

    def test_on_regions(self):
        wheres = some_wide_regions()
        for at, sentence in enumerate(sentences(STARTS)):
            for where in wheres[at % 11::11]:
                self.check(judge(sentence, where), self.expected(sentence, where))

    def test_of_several_simplest_fractions_the_least_one(self):
        some = Some(At(Moving(0), Note(12)) & At(Moving(0), Note(0)))
        missed = Region.every() - some.region()
        check_same(self, str(judge(some).fifth), "1/5")
        for fifth in ("2/5", "3/5", "4/5"):
            check_same(self, Ratio.read(fifth) in missed, True)

    def test_the_first_number_from_the_start_on(self):
        for start in (None, 0, 1, 3, 4, 5, -1, -2, -5, LONG, -LONG, 10 ** 40 - 1):
            verdict = judge(Each(Not(INSIDE), start), Region.only(Ratio(2, 5)))
            begin = 0 if start is None else start
            self.check(verdict, Fails(Ratio(2, 5), begin + (3 - begin) % 5, None))

    def test_at_fractions_with_great_bottoms(self):
        # Only fractions with up to 200 levels are in regions; their bottoms have up to 42 figures.
        for fifth in (ratio_by(*[1] * 190, 2), ratio_by(*[2] * 90), ratio_by(3, *[1] * 180, 4)):
            p, q = fifth.top, fifth.bottom
            where = Region.only(fifth)
            for start in (None, 7, LONG):
                verdict = check_quick(self, judge, Each(Not(At(Moving(0), Note(5))), start), where)
                begin = 0 if start is None else start
                self.check(verdict, Fails(fifth, begin + (5 - begin) % q, None))
                verdict = check_quick(self, judge, Each(INSIDE, start), where)
                check_same(self, [verdict.fifth == fifth, 0 < verdict.n * p % q < p, verdict.n >= begin],
                           [True, False, True])
            check_same(self, bool(judge(Some(INSIDE), where)), True)

    def test_the_first_part_without_fractions(self):
        again = Some(At(Moving(0), Note(0)), 1)
        bare = Region.leaf(False, False, False, False, True)
        self.check(judge(again, bare), Fails(None, None, Piece.whole()))
        where = Region.stretch(Ratio(1, 3), Ratio(1, 2)) & bare
        self.check(judge(again, where), Fails(None, None, Piece(Ratio(1, 3), Ratio(1, 2))))
        self.check(judge(again, where | Region.only(Ratio(1, 5), Ratio(2, 3))),
                   Fails(None, None, Piece(Ratio(1, 3), Ratio(1, 2))))
        self.check(judge(again, Region.rational()), Holds())
        self.check(judge(again, Region.none()), Holds())

    def test_too_many_exactly_if_the_difference_raises_it(self):
        raised = 0
        self.assertLess(1900, len(CHAINS))
        # True at the fractions alone whose bottoms divide 48.
        parts = Some(At(Moving(-12), Note(12)) & At(Moving(12), Note(-12)))
        for sentence in [parts, ~parts, Each(said.widest()), Some(INSIDE), Each(Any())] + sentences([None, 1])[::20]:
            region = sentence.region()
            for where in [CHAINS, CHAINS.mirrored(), ~CHAINS]:
                try:
                    missed = where - region
                except TooMany as error:
                    raised += 1
                    check_raises(self, error, judge, sentence, where)
                else:
                    check_same(self, bool(judge(sentence, where)), missed == Region.none())
        self.assertGreater(raised, 0)

    def test_refuses_in_order(self):
        for sentence, where in itertools.product(any_values(), any_values()):
            if not isinstance(sentence, Sentence):
                check_raises(self, BadSaying("sentence"), judge, sentence, where)
            elif where is not None and not isinstance(where, Region):
                check_raises(self, BadRegion(where), judge, sentence, where)


class VerdictTest(unittest.TestCase):
    def test_papers_of_any_values(self):
        values = any_values()
        fields = ("fifth", "n", "piece")
        for at in range(len(values)):
            given = [values[at - k] for k in range(3)]
            for verdict in (Fails(*given), Fails(**dict(zip(fields, given)))):
                for field, value in zip(fields, given):
                    self.assertIs(getattr(verdict, field), value)
                check_same(self, [bool(verdict), verdict == Fails(*given)], [False, True])

    def test_equal(self):
        base = [Ratio(1, 2), 3, Piece.whole()]
        for at in range(3):
            other = list(base)
            other[at] = "other"
            check_same(self, [Fails(*base) == Fails(*other), Fails(*base) != Fails(*other)], [False, True])
        check_same(self, [Fails(*base) == Fails(Ratio(2, 4), 3, Piece(0, 1)), Holds() == Holds(), Holds() != Holds(),
                          Holds() == Fails(None, None, None), Fails(None, None, None) == Holds()],
                   [True, True, False, False, False])
        for value in any_values():
            if not isinstance(value, Verdict):
                check_same(self, [Holds() == value, value == Holds(), Fails(9, 9, 9) == value], [False] * 3)
        check_same(self, [bool(Holds()), isinstance(Holds(), Verdict), isinstance(Fails(1, 2, 3), Verdict)], [True] * 3)


class PaperTest(unittest.TestCase):
    def test_the_pieces_and_the_orders(self):
        for saying in some_sayings()[::2] + comparisons()[1::7]:
            for sentence in (Some(saying), Each(saying, 3)):
                rows = paper(sentence)
                self.assertIs(type(rows), tuple)
                check_same(self, [piece for piece, _ in rows], list(settled(saying)))
                for row in rows:
                    self.assertTrue(type(row) is tuple and len(row) == 2)
                    piece, order = row
                    middle = piece.middle
                    keys = [mark * middle.top % middle.bottom for mark in order]
                    check_same(self, [keys, sorted(order)], [sorted(keys), sorted(marks_of(saying) | {0})])
                    self.assertEqual(order[0], 0)
        check_same(self, paper(sentence=Some(TWO)) == paper(Each(TWO, 5)), True)

    def test_refuses(self):
        for value in any_values():
            if not isinstance(value, Sentence):
                check_raises(self, BadSaying("sentence"), paper, value)

    def test_quick(self):
        rows = check_quick(self, paper, Each(said.widest()))
        self.assertGreater(len(rows), 500)


if __name__ == "__main__":
    unittest.main()
