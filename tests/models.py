"""What the tests know of regions by themselves: predicates over fractions, and the least trees made of them."""

import itertools
from fractions import Fraction

from anyfifth.pieces import Piece
from tests.support import check_same, fifths_to, ratio_of, row_to

HALF = Fraction(1, 2)


class Model:
    """A region as two predicates: over fractions, and over fractions that stand for an irrational close by."""

    def __init__(self, fits, bare):
        self.fits = fits
        self.bare = bare

    def __invert__(self):
        return Model(lambda x: not self.fits(x), lambda x: not self.bare(x))

    def __and__(self, other):
        return Model(lambda x: self.fits(x) and other.fits(x), lambda x: self.bare(x) and other.bare(x))

    def __or__(self, other):
        return ~(~self & ~other)

    def __sub__(self, other):
        return self & ~other

    def __xor__(self, other):
        return (self - other) | (other - self)

    def mirrored(self):
        return Model(lambda x: self.fits(1 - x), lambda x: self.bare(1 - x))


def m_only(*fifths):
    return Model(lambda x: x in fifths, lambda x: False)


def m_stretch(low, high):
    return Model(lambda x: low < x < high, lambda x: low < x < high)


def m_beside(fifth, side):
    p, q = fifth.numerator, fifth.denominator

    def fits(x):
        found = x.denominator * p - x.numerator * q
        return found == (1 if side == "left" else -1)
    return Model(fits, lambda x: False)


def m_leaf(middle, left, right, other, bare):
    def fits(x):
        u, v = x.denominator - x.numerator, x.numerator
        return middle if u == v else left if v == 1 else right if u == 1 else other
    return Model(fits, lambda x: bare)


def m_joined(truth, left, right):
    def told(x, name):
        if x == HALF:
            return truth
        return getattr(left, name)(x / (1 - x)) if x < HALF else getattr(right, name)((2 * x - 1) / x)
    return Model(lambda x: told(x, "fits"), lambda x: told(x, "bare"))


def at_spot(ends, u, v):
    a, b, c, d = ends
    return Fraction(u * a + v * c, u * b + v * d)


def truths_of(model, ends):
    """The truths for the five kinds in a piece, None if the fractions of one kind are not all alike."""
    groups = [[(1, 1)], [(2, 1), (3, 1), (7, 1)], [(1, 2), (1, 3), (1, 7)], [(2, 3), (3, 2), (5, 3), (3, 7)]]
    found = [{model.fits(at_spot(ends, u, v)) for u, v in group} for group in groups]
    found.append({model.bare(at_spot(ends, u, v)) for u, v in [(1597, 2584), (1597, 987), (89, 8), (7, 90)]})
    return tuple(one.pop() for one in found) if all(len(one) == 1 for one in found) else None


def least_tree(model, levels, ends=(0, 1, 1, 1)):
    """The least tree: a leaf (ends, truths), a branch [ends, truth, left, right]; told at most so many levels down."""
    a, b, c, d = ends
    if levels == 0:
        return ends, truths_of(model, ends)
    left = least_tree(model, levels - 1, (a, b, a + c, b + d))
    right = least_tree(model, levels - 1, (a + c, b + d, c, d))
    truth = model.fits(at_spot(ends, 1, 1))
    if isinstance(left, tuple) and isinstance(right, tuple):
        (m, l, r, o, n), (k, s, t, x, y) = left[1], right[1]
        if m == l and k == t and r == o == s == x and n == y:
            return ends, (truth, m, k, r, n)
    return [ends, truth, left, right]


def leaves(tree):
    return [tree] if isinstance(tree, tuple) else leaves(tree[2]) + leaves(tree[3])


def branches(tree):
    """The pairs (middle, truth), ascending."""
    if isinstance(tree, tuple):
        return []
    return branches(tree[2]) + [(at_spot(tree[0], 1, 1), tree[1])] + branches(tree[3])


def text(tree):
    if isinstance(tree, tuple):
        return "".join("01"[one] for one in tree[1])
    return " ".join(["01"[tree[1]], text(tree[2]), text(tree[3])])


def piece(ends):
    a, b, c, d = ends
    return Piece(ratio_of(Fraction(a, b)), ratio_of(Fraction(c, d)))


def check_region(case, region, model, levels=6):
    """Everything that a region tells is what the model tells, whose least tree has at most so many levels."""
    tree = least_tree(model, levels)
    check_same(case, str(region), text(tree))
    parts = [(piece(ends), truths) for ends, truths in leaves(tree)]
    check_same(case, [list(region.parts()), list(region.backward())], [parts, parts[::-1]])
    check_same(case, [len(region), bool(region)], [len(parts), any(any(truths) for _, truths in parts)])
    check_same(case, list(region.middles()), [(ratio_of(middle), truth) for middle, truth in branches(tree)])


def check_fractions(case, region, model, most=14):
    """The fractions in a region are those of the model."""
    found = [one for one in row_to(most)[1:-1] if model.fits(one)]
    check_same(case, [one in region for one in fifths_to(most)], [model.fits(one) for one in row_to(most)[1:-1]])
    found = sorted(found, key=lambda one: (one.denominator, one))
    check_same(case, list(region.listed(most)), [ratio_of(one) for one in found])
    if found:
        check_same(case, region.simplest(), ratio_of(found[0]))


def some_regions(region_class, most):
    """Pairs of a region and its model, of all kinds of making."""
    row = row_to(most)
    inner = [(one, ratio_of(one)) for one in row[1:-1]]
    made = []
    for truths in itertools.product((False, True), repeat=5):
        made.append((region_class.leaf(*truths), m_leaf(*truths)))
    for low, high in itertools.combinations(row, 2):
        made.append((region_class.stretch(ratio_of(low), ratio_of(high)), m_stretch(low, high)))
    for fraction, ratio in inner:
        made.append((region_class.only(ratio), m_only(fraction)))
        for side in ("left", "right"):
            made.append((region_class.beside(ratio, side), m_beside(fraction, side)))
    for at in range(len(inner) - 2):
        told = inner[at:at + 3]
        made.append((region_class.only(*[ratio for _, ratio in told]), m_only(*[one for one, _ in told])))
    return made
