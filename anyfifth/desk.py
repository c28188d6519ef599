"""The desk: a book that is asked and changed by lines of text."""

from anyfifth.books import Book
from anyfifth.errors import BadCommand
from anyfifth.firsts import first_n
from anyfifth.grammar import fifth_in, heads_in, name_in, number_in, saying_of, sentence_of, told_in, tree_behind
from anyfifth.regions import Region
from anyfifth.rows import Row
from anyfifth.sentences import judge
from anyfifth.tallies import count, tally
from anyfifth.texts import book_text


def _ask_where(book, row):
    """Set the region."""
    tree = tree_behind(row)
    book.set_where(Region(tree))
    return "ok"


def _ask_promise(book, row):
    """Put in a promise."""
    name = row.taken(name_in)
    sentence = _last_sentence(row)
    book.promise(name, sentence)
    return "ok"


def _ask_drop(book, row):
    """Take a promise out."""
    name = row.taken(name_in)
    row.close()
    book.drop(name)
    return "ok"


def _ask_undo(book, row):
    """Take back the last change."""
    row.close()
    if book.changes == 0:
        return "nothing"
    book.undo()
    return "ok"


def _ask_names(book, row):
    """The names of the promises."""
    row.close()
    return " ".join(book.names) if len(book) > 0 else "none"


def _ask_show(book, row):
    """The text of the book in one line."""
    row.close()
    return book_text(book).replace("\n", " ; ")


def _ask_region(book, row):
    """The text of the region of a sentence."""
    return str(_last_sentence(row).region())


def _ask_simple(book, row):
    """The simplest fifth at which a sentence is true."""
    fifth = _last_sentence(row).region().simplest()
    return "none" if fifth is None else str(fifth)


def _ask_judge(book, row):
    """The verdict on a sentence, on the region of the book."""
    verdict = judge(_last_sentence(row), book.where)
    if verdict:
        return "holds"
    if verdict.fifth is None:
        return f"fails between {verdict.piece}"
    if verdict.n is None:
        return f"fails {verdict.fifth}"
    return f"fails {verdict.fifth} {verdict.n}"


def _ask_tally(book, row):
    """The parts of the tally of a saying."""
    found = tally(_last_saying(row))
    return " ; ".join([f"{part.piece} {part.x} {part.y} {part.z} {part.share}" for part in found.parts()])


def _ask_count(book, row):
    """On how many keys a saying holds at a fifth."""
    fifth = row.taken(fifth_in)
    return str(count(_last_saying(row), fifth))


def _ask_first(book, row):
    """The first number for which a saying holds at a fifth."""
    fifth = row.taken(fifth_in)
    start = row.taken(number_in)
    n = first_n(_last_saying(row), fifth, start)
    return "none" if n is None else str(n)


_ANSWERS = {
    "where": _ask_where, "promise": _ask_promise, "drop": _ask_drop, "undo": _ask_undo, "names": _ask_names,
    "show": _ask_show, "region": _ask_region, "simple": _ask_simple, "judge": _ask_judge, "tally": _ask_tally,
    "count": _ask_count, "first": _ask_first,
}


class Desk:
    """Keeps a book, at first of all fifths and without promises."""

    def __init__(self):
        self._book = Book()

    def ask(self, line):
        """Carry out a line, and return its answer."""
        return _answered(self._book, line)

    def run(self, *lines):
        """The list of the answers to some lines. If one is refused, none is carried out."""
        book = self._book.twin()
        answers = [_answered(book, line) for line in lines]
        self._book = book
        return answers

    def twin_book(self):
        """A twin of the book."""
        return self._book.twin()

    def __call__(self, line):
        return self.ask(line)

    def __len__(self):
        return len(self._book._past)


def _answered(book, line):
    """The answer to a line, carried out on a book."""
    if not isinstance(line, str):
        raise BadCommand(line)
    word = line.split(" ")[0]
    if word not in _ANSWERS:
        raise BadCommand(word)
    row = Row(line, 0)
    row.skips(word)
    answer = _ANSWERS[word]
    return answer(book, row)


def _last_saying(row):
    """The saying whose words follow to the end of a line."""
    heads = heads_in(row)
    row.close()
    return saying_of(heads)


def _last_sentence(row):
    """The sentence whose words follow to the end of a line."""
    told = told_in(row)
    row.close()
    return sentence_of(told)
