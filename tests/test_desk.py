import itertools
import unittest

from anyfifth.books import Book
from anyfifth.desk import Desk
from anyfifth.errors import BadCommand, BadFifth, BadText, Broken, FifthError, NoName, TooMany
from anyfifth.firsts import first_n
from anyfifth.pieces import Piece
from anyfifth.ratios import Ratio
from anyfifth.reader import read_sentence
from anyfifth.regions import Region
from anyfifth.sayings import All, Any, Between
from anyfifth.sentences import Each, Fails, Holds, Some, judge
from anyfifth.tallies import count, tally
from anyfifth.terms import Moving, Note
from anyfifth.texts import book_text, saying_text, sentence_text
from tests import said
from tests.said import sentences, some_sayings
from tests.support import any_values, check_examples, check_quick, check_raises, check_same, fifths_to, some_wide_regions

EXAMPLES = """
>>> from anyfifth.desk import Desk
>>> desk = Desk()
>>> desk.run("names", "undo", "count 5/12 between 0 n 1", "first 5/12 0 between 0 n 1", "first 1/5 0 between 0 n 1")
['none', 'nothing', '4', '3', 'none']
>>> [desk("region some between 0 n 1"), desk("tally between 0 n 1"), desk("judge some between 0 n 1"), desk("promise up some at n 3"), desk("names")]
['00111', '0/1 1/1 0 1 -1 0,1', 'fails 1/2', 'ok', 'up']
>>> desk("count 5/5 at n 0")
raises BadText(0, 1)
"""

MOST = 10 ** 40 - 1
LONG = 10 ** 39 + 7
COMMANDS = ["where", "promise", "drop", "undo", "names", "show", "region", "simple", "judge", "tally", "count", "first"]
INSIDE = Between(Note(0), Moving(0), Note(1))
# Lines that can be carried out at first, one after another.
LINES = ["names", "show", "where 0 01011 00000", "promise up some at n 3", "promise low each all 0", "judge some between 0 n 1",
         "undo", "promise any each from 3 not any 0", "drop up", "names", "show", "where 00000", "promise never some any 0",
         "undo", "undo", "simple some between 0 n 1", "show"]


def history_of(desk):
    """What a desk shows, from now back to the first state."""
    book = desk.twin_book()
    found = [book_text(book)]
    while book.changes:
        book.undo()
        found.append(book_text(book))
    return found


def verdict_words(verdict):
    if isinstance(verdict, Holds):
        return "holds"
    if verdict.piece is not None:
        return f"fails between {verdict.piece.left} {verdict.piece.right}"
    return f"fails {verdict.fifth}" if verdict.n is None else f"fails {verdict.fifth} {verdict.n}"


class AnswerTest(unittest.TestCase):
    def test_examples(self):
        check_examples(self, EXAMPLES, {})

    def test_a_new_desk(self):
        desk = Desk()
        check_same(self, [len(desk), desk.twin_book() == Book(), desk.ask("names"), desk.ask("show"), desk.ask("undo")],
                   [0, True, "none", "where 11111", "nothing"])

    def test_sentences(self):
        desk = Desk()
        for sentence in sentences([None, 1, -4, MOST])[::2]:
            text = sentence_text(sentence)
            region = sentence.region()
            fifth = region.simplest()
            check_same(self, desk.ask(f"region {text}"), str(region))
            check_same(self, desk.ask(line=f"simple {text}"), "none" if fifth is None else str(fifth))
            check_same(self, desk(f"judge {text}"), verdict_words(judge(sentence)))
        check_same(self, [desk("simple some any 0"), desk("region each all 0")], ["none", "11111"])

    def test_verdicts_on_the_region_of_the_book(self):
        for at, sentence in enumerate(sentences([None, 1, -4])[::3]):
            desk = Desk()
            for region in some_wide_regions()[at % 8::8]:
                check_same(self, desk(f"where {region}"), "ok")
                check_same(self, desk(line=f"judge {sentence_text(sentence)}"), verdict_words(judge(sentence, region)))
        desk = Desk()
        check_same(self, [desk("where 00001"), desk("judge some from 1 at n 0"), desk("judge each from -7 not between 0 n 1"),
                          desk("where 0 0 00000 10000 00000"), desk("judge each not between 0 n 1"),
                          desk("judge each from -1 not between 0 n 1"), desk("judge some at n 0")],
                   ["ok", "fails between 0/1 1/1", "fails between 0/1 1/1", "ok", "fails 2/5 3", "fails 2/5 3", "holds"])

    def test_tallies(self):
        desk = Desk()
        for saying in some_sayings()[::3]:
            words = []
            for part in tally(saying).parts():
                one = [part.piece.left, part.piece.right, part.x, part.y, part.z, part.share]
                words.append(" ".join(str(word) for word in one))
            check_same(self, desk(f"tally {saying_text(saying)}"), " ; ".join(words))

    def test_counts_and_firsts(self):
        desk = Desk()
        far = [Ratio(LONG, 2 * LONG + 1), Ratio(MOST - 1, MOST)]
        for saying, fifth in itertools.product(some_sayings()[::6], fifths_to(4) + [Ratio(7, 12)] + far):
            text = saying_text(saying)
            check_same(self, desk(f"count {fifth} {text}"), str(count(saying, fifth)))
            for start in (0, -3, MOST, -MOST):
                n = first_n(saying, fifth, start)
                check_same(self, desk(f"first {fifth} {start} {text}"), "none" if n is None else str(n))
        wide = Ratio(10 ** 59, 10 ** 60 - 1)
        check_same(self, desk(f"count {wide} all 0"), str(10 ** 60 - 1))
        check_raises(self, BadFifth(wide), desk, f"first {wide} 0 all 0")

    def test_changes_against_a_book(self):
        desk, book = Desk(), Book()
        region = Region.stretch(Ratio(1, 2), 1)
        steps = [(f"where {region}", lambda: book.set_where(region)),
                 ("promise up some between 0 n 1", lambda: book.promise("up", Some(INSIDE))),
                 ("promise all each all 0", lambda: book.promise("all", Each(All()))),
                 ("promise up some from -3 all 0", lambda: book.promise("up", Some(All(), -3))),
                 ("drop all", lambda: book.drop("all")), ("undo", book.undo), ("undo", book.undo), ("drop up", lambda: book.drop("up")),
                 ("where 00000", lambda: book.set_where(Region.none())),
                 ("promise n some any 0", lambda: book.promise("n", Some(Any()))), ("undo", book.undo)]
        for line, step in steps:
            check_same(self, desk(line), "ok")
            step()
            twin = desk.twin_book()
            check_same(self, [twin == book, len(desk), twin.changes], [True, book.changes, book.changes])
            check_same(self, desk("names"), " ".join(book.names) if book.names else "none")
            check_same(self, desk("show"), book_text(book).replace("\n", " ; "))
        while book.changes:
            book.undo()
            check_same(self, [desk("undo"), desk.twin_book() == book, len(desk)], ["ok", True, book.changes])
        check_same(self, [desk("undo"), desk("undo"), len(desk)], ["nothing", "nothing", 0])

    def test_the_same_answers_by_all_roads(self):
        one, other, called = Desk(), Desk(), Desk()
        answers = [one.ask(line) for line in LINES]
        check_same(self, [other.run(*LINES), [called(line) for line in LINES]], [answers, answers])
        check_same(self, [history_of(other), history_of(called), len(other)], [history_of(one)] * 2 + [len(one)])
        parted = Desk()
        check_same(self, parted.run(*LINES[:5]) + parted.run() + parted.run(*LINES[5:]), answers)
        check_same(self, history_of(parted), history_of(one))
        for answer in answers:
            self.assertTrue(type(answer) is str and "\n" not in answer)

    def test_each_method_stands_in_the_class(self):
        for name in ("ask", "__call__", "run", "twin_book", "__len__"):
            self.assertIn(name, vars(Desk))
        self.assertEqual(Desk.__module__, "anyfifth.desk")


class RefusalTest(unittest.TestCase):
    def refused(self, line, expected):
        """A refused line changes nothing, alone and in a run."""
        desk = Desk()
        desk.run("promise a each all 0", "promise b some all 0", "where 11110", "undo")
        before = history_of(desk)
        for call in (desk.ask, desk):
            check_raises(self, expected, call, line)
        check_raises(self, expected, desk.run, "undo", "promise b some from 5 all 0", line, "undo")
        check_raises(self, expected, desk.run, line, 7)
        check_same(self, history_of(desk), before)

    def test_lines_that_are_no_strings(self):
        for value in any_values():
            expected = BadCommand(value)
            if isinstance(value, str):
                expected = BadCommand(value.split(" ")[0])
            self.refused(value, expected)

    def test_unknown_commands(self):
        for word in ("", "-", "Where", "names\n", "undo\t", "ask", "show,", "\nnames", "some", "all", "a" * 2000, "wher", "where0"):
            for line in (word, word + " ", word + " all 0"):
                self.refused(line, BadCommand(word))
        self.refused(" names", BadCommand(""))

    def test_words_too_many(self):
        for line, word in (("undo now", 1), ("undo ", 1), ("names ", 1), ("names all", 1), ("show 1", 1), ("drop a b", 2),
                           ("drop a ", 2), ("where 11111 0", 2), ("where 11111 ", 2), ("promise c some all 0 0", 5),
                           ("region some all 0 0", 4), ("simple each all 0 ", 4), ("judge some from 1 all 0 n", 6),
                           ("tally all 0 0", 3), ("count 1/2 all 0 at", 4), ("first 1/2 0 all 0 -", 5)):
            self.refused(line, BadText(0, word))

    def test_words_that_are_missing(self):
        for line in ("where", "promise", "promise c", "promise c some", "promise c some from", "promise c some from 3", "drop",
                     "region", "region some", "region some at", "simple", "simple each not", "judge", "judge each from",
                     "tally", "tally at n", "count", "count 1/2", "count 1/2 not", "first", "first 1/2", "first 1/2 0",
                     "first 1/2 0 all", "where 0 10100"):
            self.refused(line, BadText(0, len(line.split(" "))))

    def test_words_that_cannot_stand(self):
        for line, word in (("where 2", 1), ("where  11111", 1), ("where 0 10100 0", 4), ("where 1 11110 11110", 1),
                           ("where 1 11110 11110 x", 4), ("where 11111\n", 1), ("promise C some all 0", 1),
                           ("promise abcdefghi some all 0", 1), ("promise c all 0", 2), ("promise c some from x all 0", 4),
                           ("promise c some all 0\n", 4), ("promise c some all 13", 4), ("drop A", 1), ("drop a\n", 1),
                           ("region all 0", 1), ("region some at n n+0", 4), ("simple each\nall 0", 1), ("judge holds", 1),
                           ("tally some all 0", 1), ("tally all 0\n", 2), ("tally at n  0", 3)):
            self.refused(line, BadText(0, word))

    def test_fifths_and_numbers(self):
        long = "1" + "0" * 60
        for word in ("5/5", "2/4", "0/1", "1/1", "3/2", "-1/2", "1/-2", "1/2/3", "1", "+1/2", "01/2", "", "n", "1/02", "1/2\n",
                     f"1/{long}", f"{long}/{long}1"):
            self.refused(f"count {word} all 0", BadText(0, 1))
            self.refused(f"first {word} 0 all 0", BadText(0, 1))
        for word in ("", "-", "n", "+1", "-0", "01", "1/2", "1\n", str(10 ** 40), str(-10 ** 40)):
            self.refused(f"first 1/2 {word} all 0", BadText(0, 2))
        check_same(self, [Desk()(f"first 1/2 {MOST} all 0"), Desk()(f"first 1/2 {-MOST} at n 0")], [str(MOST), str(1 - MOST)])
        self.refused("first 1/2 0 all 0 0", BadText(0, 5))

    def test_what_is_called_raises_its_errors(self):
        deep, far = "not " * 300 + "all 0", "higher 0,20 12 0,-20 0"
        for words in ("promise c some", "promise a each", "region some", "simple each from 4", "judge some", "tally", "count 1/2",
                      "first 1/2 0"):
            self.refused(f"{words} {deep}", TooMany("deep", 6))
            self.refused(f"{words} {far}", TooMany("span", 48))
            self.refused(f"{words} {far} n", BadText(0, len(words.split(" ")) + 5))
        self.refused("promise c some any 0", Broken("c", Fails(Ratio(1, 2), None, None)))
        self.refused("promise a each not between 0 n 1", Broken("a", Fails(Ratio(2, 3), 2, None)))
        self.refused("drop c", NoName("c"))
        self.refused("where " + "0 00000 " * 201 + "10000", TooMany("levels", 200))
        desk = Desk()
        desk.run("where 00000", "promise no some any 0")
        check_raises(self, Broken("no", Fails(None, None, Piece.whole())), desk, "where 00001")
        for at in range(7):
            desk(f"promise {'abcdefg'[at]} each all 0")
        check_raises(self, TooMany("promises", 8), desk, "promise more some all 0")
        check_same(self, [len(desk), desk("names")], [9, "a b c d e f g no"])

    def test_each_command_begins_a_line(self):
        for word in COMMANDS:
            try:
                Desk().ask(word)
            except FifthError as error:
                check_same(self, error, BadText(0, 1))


class RunTest(unittest.TestCase):
    def test_answers(self):
        desk = Desk()
        check_same(self, [desk.run(), desk.run("undo")], [[], ["nothing"]])
        answers = desk.run("promise a some all 0", "names", "undo", "names")
        check_same(self, answers, ["ok", "a", "ok", "none"])
        answers.append("more")
        check_same(self, desk.run("names"), ["none"])

    def test_a_refused_line_takes_back_the_whole_run(self):
        desk = Desk()
        desk.run("promise a some all 0", "promise b each all 0", "drop a")
        before = history_of(desk)
        for lines in (["promise c some all 0", "bad"], ["undo", "undo", "undo", "undo", "names", "drop b"],
                      ["where 00000", "promise c some any 0", "where 11111"], ["drop b", "undo", "undo", None],
                      ["promise b some all 0", "judge some"], ["undo", "drop c"]):
            try:
                desk.run(*lines)
            except FifthError:
                pass
            else:
                self.fail(lines)
            check_same(self, [history_of(desk), len(desk)], [before, 3])
        check_same(self, desk.run("undo", "undo", "names", "undo", "undo"), ["ok", "ok", "a", "ok", "nothing"])

    def test_twins_go_their_own_way(self):
        desk = Desk()
        desk.run("promise a some all 0", "where 11110")
        book = desk.twin_book()
        before = history_of(desk)
        self.assertIs(type(book), Book)
        book.drop("a")
        book.undo()
        book.undo()
        check_same(self, [history_of(desk), book.changes], [before, 1])
        twin = desk.twin_book()
        desk.run("drop a", "undo", "undo", "undo")
        check_same(self, [twin.names, twin.changes, len(desk)], [("a",), 2, 0])
        check_same(self, desk.twin_book() == desk.twin_book(), True)

    def test_two_desks(self):
        one, other = Desk(), Desk()
        one("promise a some all 0")
        check_same(self, [one("names"), other("names")], ["a", "none"])

    def test_quick(self):
        desk = Desk()
        text = saying_text(said.widest())
        for line in (f"region each {text}", f"simple some {text}", f"judge each from 7 {text}", f"tally {text}",
                     f"count {MOST - 1}/{MOST} {text}", f"first {MOST - 1}/{MOST} {MOST} {text}"):
            check_quick(self, desk, line)
        check_quick(self, desk.run, *["promise a some all 0", "undo", "show"] * 1000)
        check_same(self, read_sentence(f"some {text}") == Some(said.widest()), True)


if __name__ == "__main__":
    unittest.main()
