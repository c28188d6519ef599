"""The books: promises that hold on a region."""

from anyfifth.errors import BadName, BadRegion, BadSaying, Broken, NoChange, NoName, TooMany
from anyfifth.plain import is_name
from anyfifth.regions import Region
from anyfifth.sentences import Sentence, verdict_on


class Book:
    """Sentences under names, all true on a region. It changes by its own methods and operators alone."""

    MOST = 8

    def __init__(self, where=None):
        if where is not None and not isinstance(where, Region):
            raise BadRegion(where)
        self._where = Region.every() if where is None else where
        # The pairs (sentence, its region) under the names, which ascend. Each
        # change makes a new dict, so that what was there ahead of it can be kept.
        self._promises = {}
        self._past = ()

    @property
    def where(self):
        """The region."""
        return self._where

    @where.setter
    def where(self, value):
        self.set_where(value)

    @property
    def names(self):
        """The ascending tuple of the names of the promises."""
        return tuple(self._promises)

    @property
    def changes(self):
        """How many changes can be taken back."""
        return len(self._past)

    def set_where(self, region):
        """Set the region."""
        if not isinstance(region, Region):
            raise BadRegion(region)
        for name, (sentence, held) in self._promises.items():
            _check_unbroken(name, sentence, region - held)
        self._change(region, self._promises)

    def promise(self, name, sentence):
        """Put in a promise, in the place of one with this name."""
        if not is_name(name):
            raise BadName(name)
        if not isinstance(sentence, Sentence):
            raise BadSaying("sentence")
        if name not in self._promises and len(self._promises) == Book.MOST:
            raise TooMany("promises", Book.MOST)
        held = sentence.region()
        _check_unbroken(name, sentence, self._where - held)
        promises = {**self._promises, name: (sentence, held)}
        names = sorted([str(one) for one in promises])
        self._change(self._where, {one: promises[one] for one in names})

    def drop(self, name):
        """Take a promise out, and return its sentence."""
        sentence = self[name]
        self._change(self._where, {one: self._promises[one] for one in self._promises if one != name})
        return sentence

    def widest(self):
        """The region of all fifths at which all promises are true."""
        region = Region.every()
        for _, held in self._promises.values():
            region = region & held
        return region

    def undo(self):
        """Take back the last change that was not taken back."""
        if len(self._past) == 0:
            raise NoChange()
        self._where, self._promises = self._past[-1]
        self._past = self._past[:-1]

    def trial(self):
        """A block behind which the book is as it was when the block began."""
        return Trial(self)

    def tried(self, work):
        """What work returns for the book, called in such a block."""
        with Trial(self) as same:
            return work(same)

    def twin(self):
        """An equal book that goes its own way, with the same changes to be taken back."""
        twin = Book(self._where)
        twin._promises = self._promises
        twin._past = self._past
        return twin

    def _change(self, region, promises):
        """Set the region and the promises, as a change that can be taken back."""
        self._past = self._past + ((self._where, self._promises),)
        self._where = region
        self._promises = promises

    def __getitem__(self, at):
        if at not in self:
            raise NoName(at)
        return self._promises[at][0]

    def __setitem__(self, at, worth):
        self.promise(at, worth)

    def __contains__(self, x):
        return isinstance(x, str) and x in self._promises

    def __iter__(self):
        raise TypeError("a book is not gone over")

    def __len__(self):
        return len(self._promises)

    def __eq__(self, other):
        if not isinstance(other, Book):
            return False
        return self._where == other._where and self._promises == other._promises


class Trial:
    """A block of a book: how the book was when it began."""

    def __init__(self, book):
        self._book = book
        self._where = None
        self._promises = None
        self._past = None

    def __enter__(self):
        book = self._book
        self._where = book._where
        self._promises = book._promises
        self._past = book._past
        return book

    def __exit__(self, kind, value, trace):
        book = self._book
        book._where = self._where
        book._promises = self._promises
        book._past = self._past


def _check_unbroken(name, sentence, missed):
    """Refuse that a promise is not true in some region, its sentence being false in this one of it."""
    verdict = verdict_on(sentence, missed)
    if not verdict:
        raise Broken(name, verdict)
