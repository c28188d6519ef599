"""The readers: sayings, sentences and books from their texts."""

from anyfifth.books import Book
from anyfifth.errors import BadText
from anyfifth.grammar import heads_in, name_in, saying_of, sentence_of, told_in, tree_behind
from anyfifth.regions import Region
from anyfifth.rows import Row


def read_saying(text):
    """The saying with just this text."""
    row = Row(_lines_of(text)[0], 0)
    heads = heads_in(row)
    _end(row, text)
    return saying_of(heads)


def read_sentence(text):
    """The sentence with just this text."""
    row = Row(_lines_of(text)[0], 0)
    told = told_in(row)
    _end(row, text)
    return sentence_of(told)


def read_book(text):
    """The book with just this text. It has a change to be taken back for each promise."""
    lines = _lines_of(text)
    first = Row(lines[0], 0)
    if not first.skips("where"):
        raise BadText(0, 0)
    tree = tree_behind(first)
    promises = _promises_in(lines)
    book = Book(Region(tree))
    for name, told in promises:
        book.promise(name, sentence_of(told))
    return book


def _lines_of(text):
    """The lines of a text. Refuses what is no string."""
    if not isinstance(text, str):
        raise BadText(0, 0)
    return text.split("\n")


def _end(row, text):
    """Refuse what stands behind a right first line."""
    row.close()
    if "\n" in text:
        raise BadText(1, 0)


def _promises_in(lines):
    """The pairs of the names of promises and what their sentences are made of, from the lines behind the first one."""
    promises, last = [], ""
    for line, text in enumerate(lines[1:], start=1):
        row = Row(text, line)
        if not row.skips("promise"):
            raise BadText(line, 0)
        name = row.taken(name_in)
        if name <= last:
            raise BadText(line, 1)
        promises.append((name, told_in(row)))
        row.close()
        last = name
    return promises
