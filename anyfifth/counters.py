"""For how many numbers a saying holds, or fails, at one fraction: few steps, however great the numbers are."""

from anyfifth.pieces import piece_at
from anyfifth.rings import Ring, arcs_of
from anyfifth.sayings import Saying, truths_by


def counter_of(saying, fifth, truth):
    """The Counter of the numbers for which a saying has this truth at a fraction."""
    # Marks are at most 48 apart, so they meet at no fraction with more keys.
    piece = piece_at(fifth, Saying.MOST_SPAN)
    if piece is None:
        return NearCounter(saying, fifth, truth)
    return FarCounter(saying, fifth, truth, piece)


class Counter:
    """The numbers for which a saying has a truth at one fraction, not made itself.

    Each class below has before(n): for how many numbers from 0 to n - 1 it has this truth, less a number that is
    the same for all n. So the difference for two n tells how many are between.
    """

    def __init__(self, bottom):
        self.bottom = bottom
        # How many there are among as many neighbouring numbers as there are keys.
        self.many = self.before(bottom) - self.before(0)

    def least(self, k, start):
        """The one from start on that has just k such numbers ahead of it from start on, None if there is none."""
        if self.many == 0:
            return None
        low = start + k // self.many * self.bottom
        goal = self.before(low) + k % self.many
        high = low + self.bottom - 1
        while low < high:
            half = (low + high) // 2
            if self.before(half + 1) > goal:
                high = half
            else:
                low = half + 1
        return low

    def greatest(self, start):
        """The greatest one up to start, None if there is none."""
        if self.many == 0:
            return None
        goal = self.before(start + 1)
        low, high = start - self.bottom + 1, start
        while low < high:
            half = (low + high + 1) // 2
            if self.before(half) < goal:
                low = half
            else:
                high = half - 1
        return low


class NearCounter(Counter):
    """A Counter at a fraction with few keys: it looks at all of them."""

    def __init__(self, saying, fifth, truth):
        sums = [0]
        for found in saying.held(list(range(fifth.bottom)), fifth.top, fifth.bottom):
            sums.append(sums[-1] + (1 if found == truth else 0))
        self._sums = sums
        Counter.__init__(self, fifth.bottom)

    def before(self, n):
        """For how many numbers below n, reckoned from 0 on."""
        return n // self.bottom * self._sums[-1] + self._sums[n % self.bottom]


class FarCounter(Counter):
    """A Counter at a fraction in a piece that settles the saying.

    Note n is at i or inside the arc from i to j, whose width is (-m, j - i), exactly if the whole octaves of the
    notes n - i and n - j differ by m + 1, not by m. Summed up over the numbers below some n, all but those of a
    few notes near n cancel out.
    """

    def __init__(self, saying, fifth, truth, piece):
        marks = saying.marks
        order = Ring(piece, *marks).order
        at_marks, on_arcs = truths_by(saying, piece, order)
        arcs = [arc for arc, found in zip(arcs_of(order, piece), on_arcs) if found == truth]
        steps = {mark: 0 for mark in order}
        points = {mark: 1 if found == truth else 0 for mark, found in zip(order, at_marks)}
        for arc in arcs:
            steps[arc.low] = steps[arc.low] + 1
            steps[arc.high] = steps[arc.high] - 1
            # The mark at which the arc begins is counted along with it.
            points[arc.low] = points[arc.low] - 1
        self._top = fifth.top
        self._low, self._high = marks[0], marks[-1]
        self._octaves = sum([arc.width.octaves for arc in arcs])
        self._steps = [(marks[-1] - mark, step) for mark, step in steps.items() if step != 0]
        self._points = [(mark, point) for mark, point in points.items() if point != 0]
        Counter.__init__(self, fifth.bottom)

    def before(self, n):
        """For how many numbers below n, reckoned from any number that is the same for all n."""
        sums = [0]
        for note in range(n - self._high, n - self._low):
            sums.append(sums[-1] + note * self._top // self.bottom)
        many = self._octaves * n
        for at, step in self._steps:
            many = many + step * sums[at]
        for mark, point in self._points:
            many = many + point * ((n - 1 - mark) // self.bottom)
        return many
