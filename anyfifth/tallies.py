"""The tallies: on how many keys a saying holds, at all fifths at once."""

from anyfifth.errors import BadFifth, BadPiece, BadSaying, TooMany
from anyfifth.pieces import Piece, piece_at
from anyfifth.ratios import Ratio
from anyfifth.rings import Ring, arcs_of, first_meeting
from anyfifth.sayings import Saying, truths_by
from anyfifth.tones import Tone
from anyfifth.trees import branches_of, is_branch, leaves_of, middle_of, node_at, piece_of


def settled(saying):
    """Yield the pieces that settle a saying, ascending, parted no further than they must be."""
    if not isinstance(saying, Saying):
        raise BadSaying("saying")
    for piece in _settled_in(saying, Piece.whole()):
        yield piece


def tally(saying):
    """The least Tally of a saying."""
    if not isinstance(saying, Saying):
        raise BadSaying("saying")
    return Tally(_tree_on(saying, Piece.whole()))


class Tally:
    """The counts of a saying by a least tree. It never changes, and is made by tally alone.

    A branch has the count at the middle; a leaf has x, y, z and the share.
    """

    def __init__(self, tree):
        self._tree = tree

    def parts(self):
        """Yield its leaves as Parts, ascending."""
        for ends, leaf in leaves_of(self._tree):
            yield Part(piece_of(ends), *leaf)

    def backward(self):
        """Yield its leaves as Parts, descending."""
        for ends, leaf in leaves_of(self._tree)[::-1]:
            yield Part(piece_of(ends), *leaf)

    def middles(self):
        """Yield the pairs (fifth, count) of its branches, ascending."""
        for ends, branch in branches_of(self._tree):
            yield middle_of(ends), branch[0]

    def part_at(self, fifth):
        """The Part in whose piece a fraction lies, None for the middle of a branch."""
        if not Ratio.is_fifth(fifth):
            raise BadFifth(fifth)
        ends, node, _, _ = node_at(self._tree, fifth)
        return None if is_branch(node) else Part(piece_of(ends), *node)

    def mirrored(self):
        """The tally with f and 1 - f exchanged."""
        return Tally(_mirror_of(self._tree))

    def __call__(self, fifth):
        """The count at a fraction: the number of keys."""
        if not Ratio.is_fifth(fifth):
            raise BadFifth(fifth)
        _, node, u, v = node_at(self._tree, fifth)
        if is_branch(node):
            return node[0]
        x, y, z, _ = node
        return x * u + y * v + z

    def __len__(self):
        return len(leaves_of(self._tree))

    def __eq__(self, other):
        if not isinstance(other, Tally):
            return False
        return self._tree == other._tree


class Part:
    """A paper: at the fraction with the spot (u, v) in a piece a saying holds on x * u + y * v + z keys."""

    def __init__(self, piece, x, y, z, share):
        self.piece = piece
        self.x = x
        self.y = y
        self.z = z
        self.share = share

    def count(self, u, v):
        """The number of keys at the fraction with this spot."""
        return self.x * u + self.y * v + self.z

    def __eq__(self, other):
        if not isinstance(other, Part):
            return False
        return _fields_of(self) == _fields_of(other)


def count(saying, fifth):
    """The number of keys at which a saying holds at a fraction."""
    _check(saying, fifth)
    # Marks are at most 48 apart, so they meet at no fraction with more keys.
    piece = piece_at(fifth, Saying.MOST_SPAN)
    if piece is None:
        return len(_numbers_held(saying, fifth))
    u, v = piece.spot(fifth)
    return _part_on(saying, piece).count(u, v)


def holding(saying, fifth):
    """Yield the integers n from 0 to q - 1 for which a saying holds at a fraction, ascending."""
    _check(saying, fifth)
    if fifth.bottom > 10000:
        raise TooMany("keys", 10000)
    for n in _numbers_held(saying, fifth):
        yield n


def share(saying, piece):
    """The share of a saying at all fifths of a piece that are no fraction, None if there is no one share."""
    if not isinstance(saying, Saying):
        raise BadSaying("saying")
    if not isinstance(piece, Piece):
        raise BadPiece("piece")
    found = None
    for inner in _settled_in(saying, piece):
        tone = _part_on(saying, inner).share
        if found is not None and found != tone:
            return None
        found = tone
    return found


def _fields_of(part):
    """The tuple of the attributes of a part."""
    return part.piece, part.x, part.y, part.z, part.share


def _check(saying, fifth):
    """Refuse what is no saying and what is no fifth."""
    if not isinstance(saying, Saying):
        raise BadSaying("saying")
    if not Ratio.is_fifth(fifth):
        raise BadFifth(fifth)


def _numbers_held(saying, fifth):
    """The list of the n from 0 to q - 1 for which a saying holds."""
    numbers = list(range(fifth.bottom))
    truths = saying.held(numbers, fifth.top, fifth.bottom)
    return [n for n, truth in zip(numbers, truths) if truth]


def _is_settled(saying, piece):
    """Whether a piece settles a saying."""
    return first_meeting(saying.marks, piece) is None


def _settled_in(saying, piece):
    """The list of the pieces that settle a saying, by turns the halves of each one that does not, ascending."""
    found = []
    waiting = [piece]
    while waiting:
        inner = waiting.pop()
        if _is_settled(saying, inner):
            found.append(inner)
        else:
            left, right = inner.halves
            waiting.append(right)
            waiting.append(left)
    return found


def _part_on(saying, piece):
    """The Part of a saying on a piece that settles it."""
    marks = saying.marks
    order = Ring(piece, *marks).order
    at_marks, on_arcs = truths_by(saying, piece, order)
    return part_by(piece, order, at_marks, on_arcs)


def part_by(piece, order, at_marks, on_arcs):
    """The Part of what has these truths at the marks, which stand in this order on a piece, and on the arcs."""
    arcs = [arc for arc, truth in zip(arcs_of(order, piece), on_arcs) if truth]
    x, y = sum([arc.left for arc in arcs]), sum([arc.right for arc in arcs])
    z = len([truth for truth in at_marks if truth]) - len(arcs)
    widths = Tone(sum([arc.width.octaves for arc in arcs]), sum([arc.width.fifths for arc in arcs]))
    return Part(piece, x, y, z, widths)


def _tree_on(saying, piece):
    """The least tree of the counts of a saying on a piece."""
    if _is_settled(saying, piece):
        part = _part_on(saying, piece)
        return part.x, part.y, part.z, part.share
    left, right = piece.halves
    many = len(_numbers_held(saying, piece.middle))
    return _branch_of(many, _tree_on(saying, left), _tree_on(saying, right))


def _branch_of(many, left, right):
    """The least tree that has this count at the middle and these trees for the halves."""
    if not is_branch(left) and not is_branch(right):
        x, y, z, tone = left[0], right[1], left[2], left[3]
        if many == x + y + z and left == (x, x + y, z, tone) and right == (x + y, y, z, tone):
            return x, y, z, tone
    return many, left, right


def _mirror_of(tree):
    """The tree that tells of 1 - f what this one tells of f."""
    if is_branch(tree):
        many, left, right = tree
        return many, _mirror_of(right), _mirror_of(left)
    x, y, z, tone = tree
    return y, x, z, Tone(tone.octaves + tone.fifths, -tone.fifths)
