"""The lookers: whether an answer is right. They search for nothing."""

from anyfifth.counters import counter_of
from anyfifth.errors import BadFifth, BadNumber, BadPiece, BadRegion, BadSaying
from anyfifth.pieces import Piece
from anyfifth.plain import ascending, is_from_to, is_int
from anyfifth.ratios import Ratio
from anyfifth.regions import Region
from anyfifth.rings import arcs_of
from anyfifth.sayings import Saying, truths_by
from anyfifth.sentences import Fails, Holds, Sentence, Some, region_by
from anyfifth.tallies import Part, part_by
from anyfifth.tones import Tone


def shows_ring(piece, numbers, order):
    """Whether order is the tuple of these numbers and 0 in their order on a piece, in which no two of them meet."""
    if not isinstance(piece, Piece):
        raise BadPiece("piece")
    if not isinstance(numbers, (list, tuple)):
        return False
    for number in numbers:
        if not is_from_to(number, -48, 48):
            return False
    return _is_order(piece, ascending([0, *numbers]), order)


def shows_part(saying, value, order):
    """Whether value is the Part of a saying on a piece that settles it, its marks standing in this order there."""
    if not isinstance(saying, Saying):
        raise BadSaying("saying")
    if not isinstance(value, Part) or not isinstance(value.piece, Piece):
        return False
    if not _is_order(value.piece, saying.marks, order):
        return False
    for number in (value.x, value.y, value.z):
        if not is_int(number):
            return False
    at_marks, on_arcs = truths_by(saying, value.piece, order)
    return isinstance(value.share, Tone) and value == part_by(value.piece, order, at_marks, on_arcs)


def region_of(sentence, rows):
    """The Region of a sentence by its paper, None if rows is none."""
    if not isinstance(sentence, Sentence):
        raise BadSaying("sentence")
    return region_by(sentence, rows) if _is_paper(sentence, rows) else None


def shows_region(sentence, value, rows):
    """Whether rows is a paper of a sentence, and value the Region that it tells."""
    region = region_of(sentence, rows)
    return region is not None and isinstance(value, Region) and value == region


def shows_verdict(sentence, where, value, rows):
    """Whether rows is a paper of a sentence, and value tells by it whether the sentence is true in all of where."""
    if not isinstance(sentence, Sentence):
        raise BadSaying("sentence")
    if where is not None and not isinstance(where, Region):
        raise BadRegion(where)
    region = region_of(sentence, rows)
    if region is None:
        return False
    missed = (Region.every() if where is None else where) - region
    if isinstance(value, Holds):
        return not missed
    if not isinstance(value, Fails):
        return False
    if value.fifth is None:
        return value.n is None and _is_bare(missed, value.piece)
    return value.piece is None and value.fifth in missed and _is_witness(sentence, value.fifth, value.n)


def shows_first(saying, fifth, start, value):
    """Whether value is the least integer from start on for which a saying holds at a fifth, None if there is none."""
    if not isinstance(saying, Saying):
        raise BadSaying("saying")
    if not Ratio.is_fifth(fifth):
        raise BadFifth(fifth)
    if not is_int(start):
        raise BadNumber(start)
    counter = counter_of(saying, fifth, True)
    if value is None:
        return counter.many == 0
    if not is_int(value) or value < start:
        return False
    ahead, up_to = counter.before(value) - counter.before(start), counter.before(value + 1) - counter.before(start)
    return ahead == 0 and up_to == 1


def _is_order(piece, marks, order):
    """Whether any value is the tuple of these marks in their order on a piece, in which no two of them meet."""
    if not isinstance(order, tuple) or len(order) != len(marks):
        return False
    for number in order:
        if not is_int(number):
            return False
    if order[0] != 0 or ascending(order) != marks:
        return False
    # All the ways up together are one octave exactly if the weights add up to
    # the bottoms of the ends.
    arcs = arcs_of(order, piece)
    lefts, rights = [arc.left for arc in arcs], [arc.right for arc in arcs]
    if any([weight < 0 for weight in lefts + rights]):
        return False
    return sum(lefts) == piece.left.bottom and sum(rights) == piece.right.bottom


def _is_paper(sentence, rows):
    """Whether any value is a paper of a sentence."""
    if not isinstance(rows, tuple) or len(rows) > 3000:
        return False
    end = Ratio(0)
    for row in rows:
        if not isinstance(row, tuple) or len(row) != 2:
            return False
        piece, order = row
        if not isinstance(piece, Piece) or piece.left != end or piece.right.bottom > Saying.MOST_SPAN:
            return False
        if not _is_order(piece, sentence.saying.marks, order):
            return False
        end = piece.right
    return end == 1


def _is_bare(missed, piece):
    """Whether a Region has no fraction, but all other fifths of any value that must be a piece."""
    if not isinstance(piece, Piece) or missed.simplest() is not None:
        return False
    # Of two pieces one lies in the other, or they have no fifth in common.
    return all([truths[-1] for part, truths in missed.parts() if part <= piece or piece <= part])


def _is_witness(sentence, fifth, n):
    """Whether any value is what a Fails tells beside a fraction at which a sentence is false."""
    if isinstance(sentence, Some):
        return n is None
    if not is_int(n) or (sentence.start is not None and n < sentence.start):
        return False
    return not sentence.saying.held([n], fifth.top, fifth.bottom)[0]
