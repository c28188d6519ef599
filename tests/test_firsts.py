import itertools
import unittest

from anyfifth.errors import BadFifth, BadNumber, BadSaying
from anyfifth.firsts import first_in, first_n, how_many, last_n, nth
from anyfifth.ratios import Ratio
from anyfifth.sayings import All, Any, At, Below, Between, Not, Saying
from anyfifth.terms import Moving, Note
from tests import said
from tests.said import comparisons, holds, some_sayings
from tests.support import any_values, check_examples, check_quick, check_raises, check_same, fifths_to

EXAMPLES = """
>>> from anyfifth.firsts import first_in, first_n, how_many, last_n, nth
>>> [first_n(inside, Ratio(5, 12)), last_n(inside, Ratio(5, 12)), nth(inside, Ratio(5, 12), 1), how_many(inside, Ratio(5, 12), 0, 24), first_n(inside, Ratio(1, 5))]
[3, -2, 5, 8, None]
>>> wide = Ratio(10 ** 39, 2 * 10 ** 39 + 1)
>>> [first_n(inside, wide), how_many(inside, wide, 0, 10 ** 39 * 2 + 1) == 10 ** 39 - 1, first_in(wide, 1, 1) == 2 * 10 ** 39 - 1, first_in(Ratio(5, 12), 0, 0, 1)]
[3, True, True, 12]
>>> first_in(Ratio(5, 12), 3, 2)
raises BadNumber(2)
"""

MOST = 10 ** 40 - 1
LONG = 10 ** 39 + 7
INSIDE = Between(Note(0), Moving(0), Note(1))
TWO = INSIDE & ~Between(Note(0), Moving(0), Note(2))
SAYINGS = some_sayings()[::6] + comparisons()[4::13] + [said.widest(), Any(), Not(All())]
NEAR = fifths_to(7) + [Ratio(5, 12), Ratio(1, 48), Ratio(19, 48), Ratio(20, 49), Ratio(1, 49), Ratio(31, 53), Ratio(96, 97)]


def steps_row():
    """Two neighbours of a row in which each number is the sum of the two ahead, with 40 figures."""
    low, high = 1, 1
    while low + high < 10 ** 40:
        low, high = high, low + high
    return Ratio(low, high)


GOLDEN = steps_row()
FAR = [Ratio(LONG, 2 * LONG + 1), Ratio(LONG + 1, 2 * LONG + 1), Ratio(1, LONG), Ratio(LONG - 1, LONG), GOLDEN,
       Ratio(10 ** 39, 3 * 10 ** 39 + 1), 1 - GOLDEN, Ratio(MOST - 1, MOST), Ratio(1, MOST), Ratio(LONG, MOST)]


def floors(many, p, q, shift):
    """The sum of the whole parts of (n * p + shift) / q for n from 0 to many - 1, by Euclid's division."""
    total = 0
    while True:
        total += many * (many - 1) // 2 * (p // q) + many * (shift // q)
        p, shift = p % q, shift % q
        last = many * p + shift
        if last < q:
            return total
        # The points below the line are counted by columns instead of rows.
        many, shift, p, q = last // q, last % q, q, p


def keys_between(low, high, p, q, begin, end):
    """For how many n from begin to end - 1 the key of note n is from low to high."""
    key = begin * p % q
    return floors(end - begin, p, q, key - low + q) - floors(end - begin, p, q, key - high - 1 + q)


class FirstsTest(unittest.TestCase):
    def test_examples(self):
        names = {}
        exec("from anyfifth.ratios import Ratio\nfrom anyfifth.terms import Moving, Note\n"
             "from anyfifth.sayings import Between\ninside = Between(Note(0), Moving(0), Note(1))", names)
        check_examples(self, EXAMPLES, names)

    def test_the_sums_of_this_test(self):
        for p, q, many, shift in itertools.product((1, 3, 5, 7), (7, 11, 4), (0, 1, 5, 23), (0, 2, 9, 30)):
            self.assertEqual(floors(many, p, q, shift), sum((n * p + shift) // q for n in range(many)))

    def test_near_fractions_one_by_one(self):
        for saying, fifth in itertools.product(SAYINGS, NEAR):
            p, q = fifth.top, fifth.bottom
            truths = [holds(saying, n, p, q) for n in range(q)]
            for start in (0, 1, -1, q, 7 - 3 * q, 1000):
                self.check_firsts(saying, fifth, truths, start)
            for begin, end in ((0, q), (-5, 3), (3, 3), (5, -5), (-2 * q - 1, 3 * q + 2), (1, 0)):
                expected = sum(truths[n % q] for n in range(begin, end))
                check_same(self, how_many(saying, fifth, begin, end), expected)

    def check_firsts(self, saying, fifth, truths, start):
        q = len(truths)
        found = [n for n in range(start, start + 3 * q) if truths[n % q]]
        back = [n for n in range(start, start - q, -1) if truths[n % q]]
        check_same(self, first_n(saying, fifth, start), found[0] if found else None)
        check_same(self, last_n(saying, fifth, start), back[0] if back else None)
        for k in {0, 1, len(found) // 3, len(found) - 1} - {-1}:
            check_same(self, nth(saying, fifth, k, start), found[k] if found else None)

    def test_far_starts_at_near_fractions(self):
        for saying, fifth in itertools.product(SAYINGS[::3], NEAR[::2]):
            q = fifth.bottom
            truths = [holds(saying, n, fifth.top, q) for n in range(q)]
            for start in (LONG, -LONG, MOST, -MOST):
                found = [n for n in range(start, start + q) if truths[n % q]]
                back = [n for n in range(start, start - q, -1) if truths[n % q]]
                check_same(self, [first_n(saying, fifth, start), last_n(saying, fifth, start)],
                           [found[0] if found else None, back[0] if back else None])
                if found:
                    k = 10 ** 30 * len(found) + len(found) - 1
                    check_same(self, nth(saying, fifth, k, start), 10 ** 30 * q + found[-1])
                begin, end = (start - 5, start) if start > 0 else (start, start + 5)
                check_same(self, how_many(saying, fifth, begin, end), sum(truths[n % q] for n in range(begin, end)))
            many = sum(truths)
            rest = sum(truths[n % q] for n in range(-MOST, -MOST + 2 * MOST % q))
            check_same(self, how_many(saying, fifth, -MOST, MOST), 2 * MOST // q * many + rest)
            check_same(self, how_many(saying, fifth, MOST, -MOST), 0)

    def test_defaults_and_names(self):
        fifth = Ratio(5, 12)
        check_same(self, [first_n(fifth=fifth, saying=INSIDE), last_n(fifth=fifth, saying=INSIDE, start=-3),
                          how_many(end=24, begin=0, fifth=fifth, saying=INSIDE),
                          nth(k=2, start=4, saying=INSIDE, fifth=fifth),
                          first_in(start=1, high=1, low=0, fifth=fifth), nth(INSIDE, fifth, 0)], [3, -4, 8, 10, 5, 3])

    def test_starts_that_are_not_told(self):
        one, zero, fifth = At(Moving(0), Note(1)), At(Moving(0), Note(0)), Ratio(5, 12)
        check_same(self, [first_n(zero, fifth), last_n(one, fifth), nth(zero, fifth, 0), nth(zero, fifth, 2),
                          first_in(fifth, 0, 0)], [0, -11, 0, 24, 0])

    def test_no_number_at_all(self):
        for saying in (Any(), Not(All()), INSIDE & ~INSIDE):
            for fifth, start in itertools.product(FAR + NEAR[::5], (0, LONG, -MOST)):
                check_same(self, [first_n(saying, fifth, start), last_n(saying, fifth, start),
                                  nth(saying, fifth, LONG, start), how_many(saying, fifth, -MOST, MOST)],
                           [None, None, None, 0])
        check_same(self, [first_n(INSIDE, Ratio(1, LONG)), nth(INSIDE, Ratio(1, 7), 0)], [None, None])

    def test_each_number(self):
        for saying in (All(), Not(Any()), INSIDE | ~INSIDE):
            for fifth, start in itertools.product(FAR + NEAR[::5], (0, LONG, -MOST)):
                check_same(self, [first_n(saying, fifth, start), last_n(saying, fifth, start),
                                  nth(saying, fifth, LONG, start), how_many(saying, fifth, -MOST, MOST)],
                           [start, start, start + LONG, 2 * MOST])


class FarTest(unittest.TestCase):
    def arcs(self, saying, fifth):
        """The keys at which a saying holds, as pairs (low, high) from one to the other."""
        p, q = fifth.top, fifth.bottom
        keys = {mark * p % q: mark for mark in said.marks_of(saying) | {0}}
        row = sorted(keys)
        inverse = pow(p, -1, q)
        found = [(key, key) for key in row if holds(saying, keys[key], p, q)]
        for low, high in zip(row, row[1:] + [q]):
            if high - low > 1 and holds(saying, (low + 1) * inverse % q, p, q):
                found.append((low + 1, high - 1))
        return found

    def test_how_many_against_sums(self):
        ends = [0, 1, -1, LONG, -LONG, MOST, -MOST, 3 * 10 ** 20, 17]
        for saying, fifth in itertools.product(SAYINGS[::2] + [said.widest()], FAR):
            arcs = self.arcs(saying, fifth)
            for begin, end in [(ends[at], ends[at - 3]) for at in range(len(ends))]:
                expected = sum(keys_between(low, high, fifth.top, fifth.bottom, begin, end) for low, high in arcs)
                check_same(self, how_many(saying, fifth, begin, end), expected if end > begin else 0)

    def test_first_last_and_nth_against_how_many(self):
        for saying, fifth in itertools.product(SAYINGS[::3] + [said.widest()], FAR):
            p, q = fifth.top, fifth.bottom
            for start in (LONG, -MOST, -17):
                n = first_n(saying, fifth, start)
                if n is None:
                    check_same(self, [self.arcs(saying, fifth), last_n(saying, fifth, start)], [[], None])
                    continue
                self.assertTrue(start <= n < start + q and holds(saying, n, p, q))
                check_same(self, self.counted(saying, fifth, start, n), 0)
                back = last_n(saying, fifth, start)
                self.assertTrue(start - q < back <= start and holds(saying, back, p, q))
                check_same(self, self.counted(saying, fifth, back + 1, start + 1), 0)
                for k in (0, 10 ** 20, MOST):
                    n = nth(saying, fifth, k, start)
                    self.assertTrue(holds(saying, n, p, q))
                    check_same(self, self.counted(saying, fifth, start, n), k)

    def counted(self, saying, fifth, begin, end):
        return sum(keys_between(low, high, fifth.top, fifth.bottom, begin, end) for low, high in self.arcs(saying, fifth))

    def test_mirrored_and_moved(self):
        for saying, fifth in itertools.product(SAYINGS[::4], FAR + NEAR[::4]):
            mirrored = saying.mirrored()
            for start in (0, 5, -LONG):
                n, back = first_n(saying, fifth, start), last_n(saying, fifth, start)
                check_same(self, [last_n(mirrored, 1 - fifth, -start), first_n(mirrored, 1 - fifth, -start)],
                           [None if n is None else -n, None if back is None else -back])
                check_same(self, how_many(mirrored, 1 - fifth, -start - 10 ** 20, 1 - start),
                           how_many(saying, fifth, start, start + 10 ** 20 + 1))
        # All terms of the saying move, so it speaks of notes 3 fifths further: n becomes n - 3 only beside fixed ones.
        moving = Between(Moving(0), Moving(7), Moving(2)) | Below(Moving(0), Moving(-1))
        for fifth in FAR:
            check_same(self, first_n(moving.moved(3), fifth, 5), first_n(moving, fifth, 8) - 3)

    def test_first_in_one_by_one(self):
        for fifth in NEAR:
            p, q = fifth.top, fifth.bottom
            for low in {0, 1, q // 2, q - 1}:
                for high in {low, min(low + 2, q - 1), q - 1}:
                    for start in (0, 1, -7, LONG):
                        expected = next(n for n in itertools.count(start) if low <= n * p % q <= high)
                        check_same(self, first_in(fifth, low, high, start), expected)
        check_same(self, first_in(Ratio(5, 12), 0, 0), 0)

    def test_first_in_far_on(self):
        for fifth in FAR:
            p, q = fifth.top, fifth.bottom
            for low, high in ((0, 0), (1, 1), (q - 1, q - 1), (q // 3, q // 3 + 1), (q // 2, q // 2 + 10 ** 15), (5, q - 1)):
                for start in (0, 3, LONG, -MOST):
                    n = first_in(fifth, low, high, start)
                    self.assertTrue(n >= start and low <= n * p % q <= high)
                    check_same(self, keys_between(low, high, p, q, start, n), 0)

    def test_quick(self):
        for saying, fifth in itertools.product((said.widest(), TWO), FAR):
            check_quick(self, lambda: [first_n(saying, fifth, MOST), last_n(saying, fifth, -MOST),
                                       nth(saying, fifth, MOST, -MOST), how_many(saying, fifth, -MOST, MOST)])
            check_quick(self, lambda: [first_in(fifth, at, at, MOST) for at in range(0, fifth.bottom, fifth.bottom // 50)])


class RefusalTest(unittest.TestCase):
    BAD = [10 ** 40, -10 ** 40]

    def test_sayings_and_fifths(self):
        long = [Ratio(1, 10 ** 40), Ratio(10 ** 40, 10 ** 40 + 1)]
        for saying, fifth in itertools.product(any_values() + [TWO], any_values() + long):
            if not isinstance(saying, Saying):
                expected = BadSaying("saying")
            elif not Ratio.is_fifth(fifth) or fifth.bottom >= 10 ** 40:
                expected = BadFifth(fifth)
            else:
                continue
            for call in (first_n, last_n):
                check_raises(self, expected, call, saying, fifth)
                check_raises(self, expected, call, saying, fifth, "no number")
            for call in (how_many, nth):
                check_raises(self, expected, call, saying, fifth, None, None)
        check_same(self, first_n(All(), Ratio(1, 10 ** 40 - 1)), 0)

    def test_numbers(self):
        fifth = Ratio(5, 12)
        for value in any_values() + self.BAD:
            if type(value) is int and abs(value) < 10 ** 40:
                continue
            for call in (first_n, last_n):
                check_raises(self, BadNumber(value), call, TWO, fifth, value)
            check_raises(self, BadNumber(value), how_many, TWO, fifth, value, "also")
            check_raises(self, BadNumber(value), how_many, TWO, fifth, 5, value)
            check_raises(self, BadNumber(value), nth, TWO, fifth, value, "also")
            check_raises(self, BadNumber(value), nth, TWO, fifth, 5, value)
            check_raises(self, BadNumber(value), nth, Any(), fifth, 5, value)
            check_raises(self, BadNumber(value), first_in, fifth, 0, 0, value)
        for k in (-1, -LONG):
            check_raises(self, BadNumber(k), nth, TWO, fifth, k)
            check_raises(self, BadNumber(k), nth, TWO, fifth, k, None)

    def test_keys(self):
        fifth = Ratio(5, 12)
        for value in any_values() + [Ratio(1, 10 ** 40)]:
            if not Ratio.is_fifth(value) or value.bottom >= 10 ** 40:
                check_raises(self, BadFifth(value), first_in, value, "low", "high", "start")
        for value in any_values() + self.BAD + [12, -1]:
            if type(value) is not int or not 0 <= value <= 11:
                check_raises(self, BadNumber(value), first_in, fifth, value, "high", "start")
            if type(value) is not int or not 2 <= value <= 11:
                check_raises(self, BadNumber(value), first_in, fifth, 2, value, "start")
        check_same(self, first_in(fifth, 11, 11), 7)

    def test_each_function_stands_in_its_file(self):
        for one in (first_n, last_n, how_many, nth, first_in):
            self.assertEqual(one.__module__, "anyfifth.firsts")
        check_same(self, first_n(At(Moving(0), Note(3)), Ratio(1, 2)), 1)


if __name__ == "__main__":
    unittest.main()
