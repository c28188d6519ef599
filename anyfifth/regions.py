"""The regions: the sets of fifths that can be told by a finite tree."""

from anyfifth.errors import BadFifth, BadNumber, BadPiece, BadRegion, BadText, BadTruth, TooMany
from anyfifth.pieces import Piece, path
from anyfifth.plain import is_from_to
from anyfifth.ratios import Ratio
from anyfifth.rows import Row
from anyfifth.trees import (
    WHOLE, branches_of, half_ends, is_branch, leaves_of, middle_of, node_at, nodes_of, piece_of, sizes_of)
from anyfifth.truths import (
    AND, EVERY, LESS, NONE, OR, UNLIKE, above_tree, below_tree, beside_tree, branch_of, combined, mirror_of, tree_in,
    tree_of, truth_at, words_of)


class Region:
    """A set of fifths, told by its least tree. It never changes, and is made by its own methods alone."""

    LEVELS = 200
    MOST = 2000
    KINDS = ("middle", "left", "right", "other", "none")

    def __init__(self, tree):
        levels, leaves = sizes_of(tree)
        if levels > Region.LEVELS:
            raise TooMany("levels", Region.LEVELS)
        if leaves > Region.MOST:
            raise TooMany("pieces", Region.MOST)
        self._tree = tree

    @staticmethod
    def every():
        """All fifths."""
        return Region(EVERY)

    @staticmethod
    def none():
        """No fifth."""
        return Region(NONE)

    @staticmethod
    def rational():
        """All fractions."""
        return Region((True, True, True, True, False))

    # No static method, since one with a star needs a plain first parameter.
    @classmethod
    def only(cls, *fifths):
        """Just these fractions."""
        for fifth in fifths:
            if not Ratio.is_fifth(fifth):
                raise BadFifth(fifth)
        for fifth in fifths:
            _check_levels(_level_of(fifth))
        return cls(_tree_of_only(fifths))

    @staticmethod
    def stretch(low, high):
        """All fifths strictly between two numbers from 0 to 1."""
        if not _is_in_octave(low):
            raise BadRegion(low)
        if not _is_in_octave(high):
            raise BadRegion(high)
        if high <= low:
            return Region(NONE)
        # An end that is a fifth is the middle of a branch, with two halves below.
        for end in (low, high):
            if Ratio.is_fifth(end):
                _check_levels(_level_of(end) + 1)
        from_low = above_tree(low) if 0 < low else EVERY
        to_high = below_tree(high) if high < 1 else EVERY
        return Region(combined(from_low, to_high, AND))

    @staticmethod
    def beside(fifth, side):
        """All neighbours of a fifth that are fifths and below it ("left") or above it ("right")."""
        if not Ratio.is_fifth(fifth):
            raise BadFifth(fifth)
        if not isinstance(side, str) or side not in ("left", "right"):
            raise BadRegion(side)
        _check_levels(_level_of(fifth) + 1)
        if side == "left":
            return Region(beside_tree(fifth))
        return Region(mirror_of(beside_tree(1 - fifth)))

    @staticmethod
    def leaf(middle, left, right, other, bare):
        """The region whose truths these are, for the kinds in the piece of all fifths."""
        truths = (middle, left, right, other, bare)
        for truth in truths:
            if not isinstance(truth, bool):
                raise BadTruth(truth)
        return Region(truths)

    @staticmethod
    def joined(truth, left, right):
        """The region with this truth at 1/2 and with these regions, each brought into its half."""
        if not isinstance(truth, bool):
            raise BadTruth(truth)
        if not isinstance(left, Region):
            raise BadRegion(left)
        if not isinstance(right, Region):
            raise BadRegion(right)
        return Region(branch_of(truth, left._tree, right._tree))

    @classmethod
    def read(cls, text):
        """The region with just this text."""
        if not isinstance(text, str):
            raise BadText(0, 0)
        tree = tree_in(Row(text, 0))
        if tree is None:
            raise BadText(0, 0)
        return cls(tree)

    def parts(self):
        """Yield the pairs (piece, truths) of its parts, ascending."""
        for ends, truths in leaves_of(self._tree):
            yield piece_of(ends), truths

    def backward(self):
        """Yield the pairs (piece, truths) of its parts, descending."""
        for ends, truths in leaves_of(self._tree)[::-1]:
            yield piece_of(ends), truths

    def middles(self):
        """Yield the pairs (middle, truth) of the branches of its least tree, ascending."""
        for ends, branch in branches_of(self._tree):
            yield middle_of(ends), branch[0]

    def truths_on(self, piece):
        """The five truths for the kinds of a piece that is a part or lies in one, None for another piece."""
        if not isinstance(piece, Piece):
            raise BadPiece("piece")
        ends, tree = WHOLE, self._tree
        while is_branch(tree):
            left, right = half_ends(ends)
            middle = middle_of(ends)
            if piece.right <= middle:
                ends, tree = left, tree[1]
            elif middle <= piece.left:
                ends, tree = right, tree[2]
            else:
                return None
        return _truths_within(tree, piece_of(ends), piece)

    def listed(self, most):
        """Yield the fractions in it with bottoms up to most, by their bottoms, then ascending."""
        if not is_from_to(most, 1, 1000):
            raise BadNumber(most)
        tops_by_bottom = [[] for _ in range(most + 1)]
        for ends, node in nodes_of(self._tree):
            for top, bottom in _fractions_of(ends, node, most):
                tops_by_bottom[bottom].append(top)
        for bottom, tops in enumerate(tops_by_bottom):
            for top in tops:
                yield Ratio(top, bottom)

    def simplest(self):
        """The fraction in it with the least bottom, of several the least one; None if it has none."""
        found = None
        for (a, b, c, d), node in nodes_of(self._tree):
            for u, v in _first_spots(node):
                top, bottom = u * a + v * c, u * b + v * d
                # Those with the same bottom come ascending.
                if found is None or bottom < found[1]:
                    found = (top, bottom)
        return None if found is None else Ratio(found[0], found[1])

    def mirrored(self):
        """The region of all 1 - f for its fifths f."""
        return Region(mirror_of(self._tree))

    def __invert__(self):
        return Region(combined(EVERY, self._tree, LESS))

    def __and__(self, other):
        if not isinstance(other, Region):
            return NotImplemented
        return Region(combined(self._tree, other._tree, AND))

    def __or__(self, other):
        if not isinstance(other, Region):
            return NotImplemented
        return Region(combined(self._tree, other._tree, OR))

    def __sub__(self, other):
        if not isinstance(other, Region):
            return NotImplemented
        return Region(combined(self._tree, other._tree, LESS))

    def __xor__(self, other):
        if not isinstance(other, Region):
            return NotImplemented
        return Region(combined(self._tree, other._tree, UNLIKE))

    def __le__(self, other):
        if not isinstance(other, Region):
            return NotImplemented
        return _is_within(self._tree, other._tree)

    def __lt__(self, other):
        if not isinstance(other, Region):
            return NotImplemented
        return self._tree != other._tree and _is_within(self._tree, other._tree)

    def __ge__(self, other):
        if not isinstance(other, Region):
            return NotImplemented
        return _is_within(other._tree, self._tree)

    def __gt__(self, other):
        if not isinstance(other, Region):
            return NotImplemented
        return self._tree != other._tree and _is_within(other._tree, self._tree)

    def __eq__(self, other):
        if not isinstance(other, Region):
            return False
        return self._tree == other._tree

    def __contains__(self, x):
        if not Ratio.is_fifth(x):
            return False
        _, node, u, v = node_at(self._tree, x)
        return node[0] if is_branch(node) else truth_at(node, u, v)

    def __bool__(self):
        return bool(self._tree != NONE)

    def __len__(self):
        return len(leaves_of(self._tree))

    def __str__(self):
        return " ".join(words_of(self._tree))


def _is_in_octave(value):
    """Whether any value is a number from 0 to 1."""
    return Ratio.is_number(value) and 0 <= value and value <= 1


def _level_of(fifth):
    """How many branches stand above the piece whose middle the fifth is."""
    return sum(path(fifth)) - 2


def _check_levels(levels):
    """Refuse a tree with so many levels, ahead of building it."""
    if levels > Region.LEVELS:
        raise TooMany("levels", Region.LEVELS)


def _is_within(one, other):
    """Whether each fifth of one tree is in the other one, also where no region could be made of what is left."""
    return combined(one, other, LESS) == NONE


def _tree_of_only(fifths):
    """The tree of just these fractions."""
    # Only a leaf without fractions, or with its middle alone, has finitely many
    # of them: each other piece around some of them is a branch.
    nodes, branches = [], 0
    waiting = [[(fifth.bottom - fifth.top, fifth.top) for fifth in fifths]]
    while waiting:
        spots = waiting.pop()
        on_left = [(u - v, v) for u, v in spots if u > v]
        on_right = [(u, v - u) for u, v in spots if v > u]
        has_middle = len(on_left) + len(on_right) < len(spots)
        if on_left == [] and on_right == []:
            nodes.append((has_middle, False, False, False, False))
            continue
        branches = branches + 1
        if branches >= Region.MOST:
            raise TooMany("pieces", Region.MOST)
        nodes.append(has_middle)
        waiting.append(on_right)
        waiting.append(on_left)
    return tree_of(nodes)


def _truths_within(leaf, around, piece):
    """The truths for the kinds of a piece that lies in the piece of a leaf."""
    _, left, right, other, bare = leaf
    if piece == around:
        return leaf
    # The kind of the further neighbours of an end goes with this end.
    if piece.left == around.left:
        return left, left, other, other, bare
    if piece.right == around.right:
        return right, other, right, other, bare
    return other, other, other, other, bare


def _first_spots(node):
    """The spots of those fractions of a node that may be the simplest one, ascending."""
    if is_branch(node):
        return [(1, 1)] if node[0] else []
    spots = [(2, 1), (3, 2), (1, 1), (2, 3), (1, 2)]
    return [(u, v) for u, v in spots if truth_at(node, u, v)]


def _fractions_of(ends, node, most):
    """The pairs (top, bottom) of the fractions of a node with bottoms up to most; those with one bottom ascend."""
    a, b, c, d = ends
    if b + d > most:
        return []
    if is_branch(node):
        return [(a + c, b + d)] if node[0] else []
    if node[3]:
        rows = _fractions_between(ends, most)
        return [(p, q) for p, q in rows if truth_at(node, c * q - d * p, b * p - a * q)]
    # Without the kind "other" there are so few that they are told by their spots.
    spots = [(u, 1) for u in range(1, (most - d) // b + 1)]
    spots = spots + [(1, v) for v in range(2, (most - b) // d + 1)]
    return [(u * a + v * c, u * b + v * d) for u, v in spots if truth_at(node, u, v)]


def _fractions_between(ends, most):
    """All pairs (top, bottom) of fractions strictly between neighbours, with bottoms up to most, ascending."""
    a, b, c, d = ends
    turns = (most - d) // b
    last_top, last_bottom, top, bottom = a, b, turns * a + c, turns * b + d
    found = []
    while bottom != d or top != c:
        found.append((top, bottom))
        turns = (most + last_bottom) // bottom
        last_top, last_bottom, top, bottom = top, bottom, turns * top - last_top, turns * bottom - last_bottom
    return found
