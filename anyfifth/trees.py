"""Finite trees over the pieces: what regions and tallies are made of.

A tree is a tuple. A branch has three items: what is told of the middle of its piece, and the
trees of both halves. A leaf has more items. The whole tree stands for the piece of all fifths.
The ends a/b and c/d of a piece are a tuple (a, b, c, d) here.
"""

from anyfifth.pieces import Piece
from anyfifth.ratios import Ratio

WHOLE = (0, 1, 1, 1)


def is_branch(tree):
    """Whether a tree is a branch, not a leaf."""
    return len(tree) == 3


def nodes_of(tree):
    """The pairs (ends, node), ascending: a leaf, a branch, a leaf, and so on to the last leaf."""
    nodes = []
    waiting = [(WHOLE, tree, True)]
    while waiting:
        ends, node, is_new = waiting.pop()
        if is_new and is_branch(node):
            left, right = half_ends(ends)
            waiting.append((right, node[2], True))
            waiting.append((ends, node, False))
            waiting.append((left, node[1], True))
        else:
            nodes.append((ends, node))
    return nodes


def leaves_of(tree):
    """The pairs (ends, leaf), ascending."""
    return nodes_of(tree)[::2]


def branches_of(tree):
    """The pairs (ends, branch), ascending by the middles."""
    return nodes_of(tree)[1::2]


def sizes_of(tree):
    """The pair of the levels and of the number of leaves of a tree."""
    levels, leaves = 0, 0
    waiting = [(0, tree)]
    while waiting:
        level, node = waiting.pop()
        if is_branch(node):
            waiting.append((level + 1, node[1]))
            waiting.append((level + 1, node[2]))
        else:
            leaves = leaves + 1
            levels = level if level > levels else levels
    return levels, leaves


def node_at(tree, fifth):
    """The ends and the node at a fraction, and its spot there: the leaf around it, or the branch in its middle."""
    ends = WHOLE
    u, v = fifth.bottom - fifth.top, fifth.top
    while is_branch(tree) and u != v:
        left, right = half_ends(ends)
        if u > v:
            ends, tree, u = left, tree[1], u - v
        else:
            ends, tree, v = right, tree[2], v - u
    return ends, tree, u, v


def half_ends(ends):
    """The ends of the left and of the right half."""
    a, b, c, d = ends
    return (a, b, a + c, b + d), (a + c, b + d, c, d)


def piece_of(ends):
    """The Piece with these ends."""
    a, b, c, d = ends
    return Piece(Ratio(a, b), Ratio(c, d))


def middle_of(ends):
    """The middle of the piece with these ends."""
    a, b, c, d = ends
    return Ratio(a + c, b + d)
