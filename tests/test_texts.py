import itertools
import unittest

from anyfifth import reader, texts
from anyfifth.books import Book
from anyfifth.errors import BadSaying, BadText, Broken, FifthError, TooMany
from anyfifth.ratios import Ratio
from anyfifth.reader import read_book, read_saying, read_sentence
from anyfifth.regions import Region
from anyfifth.sayings import All, Any, At, Below, Between, Even, Higher, Joined, Not, Saying
from anyfifth.sentences import Each, Fails, Sentence, Some
from anyfifth.terms import Height, Moving, Note
from anyfifth.texts import book_text, saying_text, sentence_text
from anyfifth.tones import Tone
from tests import said
from tests.said import comparisons, sentences, some_sayings
from tests.support import any_values, check_examples, check_quick, check_raises, check_same, some_wide_regions

EXAMPLES = """
>>> from anyfifth.reader import read_book, read_saying, read_sentence
>>> from anyfifth.texts import book_text, saying_text, sentence_text
>>> saying_text(read_saying("all 2 between n+7 n n+2 not higher -4,7 n 0,0 3"))
'all 2 between n+7 n n+2 not higher -4,7 n 0,0 3'
>>> [read_saying("below n+1 n") == Below(Moving(1), Moving(0)), sentence_text(read_sentence("each from -3 at n 0"))]
[True, 'each from -3 at n 0']
>>> read_saying("at n")
raises BadText(0, 2)
>>> read_saying("at n n+0")
raises BadText(0, 2)
>>> read_saying("at n 3 4")
raises BadText(0, 3)
>>> read_saying("any 1")
raises BadText(0, 2)
>>> read_sentence("some from at n 0")
raises BadText(0, 2)
>>> read_book("where 0 10100")
raises BadText(0, 3)
"""

MOST = 10 ** 40 - 1
TERMS = {"n": Moving(0), "n+1": Moving(1), "n-1": Moving(-1), "n+12": Moving(12), "n-12": Moving(-12), "n+9": Moving(9),
         "0": Note(0), "1": Note(1), "-1": Note(-1), "12": Note(12), "-12": Note(-12), "10": Note(10)}
BAD_TERMS = ["n+0", "n-0", "n+13", "n-13", "n+01", "n1", "n+", "n-", "n+-1", "n--1", "n-+1", "n++1", "nn", "N", "+n", "-n",
             "2n", "n+1.", "+4", "-0", "04", "00", "-04", "13", "-13", "100", "--1", "1/1", "1,1", "0x1", "1_0", "one", "",
             "-", "n+1n", "at", "all", "1e1", " ", "\t1"]
TONES = {"0,0": Tone(0), "-4,7": Tone(-4, 7), "20,-20": Tone(20, -20), "-20,20": Tone(-20, 20), "1,0": Tone(1)}
BAD_TONES = ["21,0", "0,21", "-21,0", "0,-21", "0", "0,", ",0", "0,0,0", "00,0", "0,-0", "+1,0", "1,+1", "n,0", "", "-", "1.0",
             "1, 0", "100,0", "n", "at", "-,1", "0,01"]
BAD_HEADS = ["", "-", "At", "AT", "atn", "none", "some", "each", "from", "n", "0", "where", "and", "or", "Not", "high", "7"]
BAD_COUNTS = ["13", "-1", "00", "01", "+1", "-0", "n", "at", "", "-", "1,0", "012", "100"]
BAD_STARTS = ["n", "at", "+1", "-0", "00", "01", "", "-", "1,0", "1/1", str(10 ** 40), str(-10 ** 40), "from", "--1", "n+1"]


def term_word(term):
    number = term.number
    if isinstance(term, Note):
        return str(number)
    return "n" if number == 0 else f"n+{number}" if number > 0 else f"n-{-number}"


def words_of(saying):
    """The text of a saying, by the document's table."""
    if isinstance(saying, Not):
        return "not " + words_of(saying.saying)
    if isinstance(saying, Joined):
        word = "all" if isinstance(saying, All) else "any"
        return " ".join([word, str(len(saying.sayings))] + [words_of(one) for one in saying.sayings])
    if isinstance(saying, Between):
        return " ".join(["between"] + [term_word(one) for one in (saying.first, saying.inside, saying.last)])
    if isinstance(saying, (At, Below)):
        return " ".join(["at" if isinstance(saying, At) else "below", term_word(saying.one), term_word(saying.other)])
    heights = [f"{one.tone.octaves},{one.tone.fifths} {term_word(one.term)}" for one in (saying.one, saying.other)]
    return " ".join(["higher" if isinstance(saying, Higher) else "even"] + heights)


def sentence_words(sentence):
    words = ["some" if isinstance(sentence, Some) else "each"]
    if sentence.start is not None:
        words += ["from", str(sentence.start)]
    return " ".join(words + [words_of(sentence.saying)])


class WritingTest(unittest.TestCase):
    def test_examples(self):
        names = {}
        exec("from anyfifth.terms import Moving\nfrom anyfifth.sayings import Below", names)
        check_examples(self, EXAMPLES, names)

    def test_sayings_there_and_back(self):
        for saying in some_sayings() + comparisons() + [said.widest(), All(*[Any()] * 12), Not(Not(Not(Not(Not(All())))))]:
            text = words_of(saying)
            check_same(self, saying_text(saying), text)
            check_same(self, read_saying(text), saying)
            check_same(self, [saying_text(saying=saying), read_saying(text=text)], [text, saying])

    def test_sentences_there_and_back(self):
        for sentence in sentences([None, 0, 1, -3, 12, MOST, -MOST]):
            text = sentence_words(sentence)
            check_same(self, [sentence_text(sentence), sentence_text(sentence=sentence)], [text, text])
            check_same(self, [read_sentence(text), read_sentence(text=text)], [sentence, sentence])

    def test_terms_and_tones(self):
        for (one, term), (other, second) in itertools.product(TERMS.items(), TERMS.items()):
            check_same(self, read_saying(f"at {one} {other}"), At(term, second))
            check_same(self, saying_text(Below(term, second)), f"below {one} {other}")
        for (word, tone), (one, term) in itertools.product(TONES.items(), TERMS.items()):
            saying = Higher(Height(tone, Note(0)), Height(tone, term))
            check_same(self, [saying_text(saying), read_saying(f"higher {word} 0 {word} {one}")],
                       [f"higher {word} 0 {word} {one}", saying])
        check_same(self, read_saying("even 0,1 n 1,-1 3"), Even(Height(Tone(0, 1), Moving(0)), Height(Tone(1, -1), Note(3))))

    def test_books_there_and_back(self):
        made = sentences([None, 2, -5])
        for at, region in enumerate(some_wide_regions()):
            book = Book(Region.none())
            for name in ("n", "from", "all", "where", "abcdefgh", "a")[:at % 7]:
                book[name] = made[(at * 5 + len(name)) % len(made)]
            try:
                book.where = region
            except Broken:
                book.where = book.widest()
            lines = [f"where {book.where}"] + [f"promise {name} {sentence_words(book[name])}" for name in sorted(book.names)]
            check_same(self, [book_text(book), book_text(book=book)], ["\n".join(lines)] * 2)
            read = read_book("\n".join(lines))
            check_same(self, [type(read), read == book, read.names, read.changes], [Book, True, book.names, len(book)])
        check_same(self, [book_text(Book()), read_book(text="where 11111")], ["where 11111", Book()])

    def test_a_book_that_is_read_has_a_change_for_each_promise(self):
        book = read_book("where 11110\npromise a some at n 3\npromise b each all 0")
        check_same(self, [book.changes, book.names], [2, ("a", "b")])
        book.undo()
        check_same(self, book.names, ("a",))
        book.undo()
        check_same(self, [book.names, book.where, book.changes], [(), Region.rational(), 0])

    def test_refuses(self):
        for value in any_values():
            if not isinstance(value, Saying):
                check_raises(self, BadSaying("saying"), saying_text, value)
            if not isinstance(value, Sentence):
                check_raises(self, BadSaying("sentence"), sentence_text, value)

    def test_each_function_stands_in_its_file(self):
        for name in ("saying_text", "sentence_text", "book_text"):
            self.assertEqual(getattr(texts, name).__module__, "anyfifth.texts")
        for name in ("read_saying", "read_sentence", "read_book"):
            self.assertEqual(getattr(reader, name).__module__, "anyfifth.reader")


class SayingTest(unittest.TestCase):
    def refused(self, text, line, word):
        check_raises(self, BadText(line, word), read_saying, text)

    def test_no_strings_and_other_texts(self):
        for value in any_values():
            if isinstance(value, str):
                self.refused(value, 0, 0)
            else:
                for read in (read_saying, read_sentence, read_book):
                    check_raises(self, BadText(0, 0), read, value)

    def test_terms_that_cannot_stand(self):
        for word in BAD_TERMS:
            if " " in word:
                continue
            for text in (f"at {word}", f"at {word} n", f"below {word}", f"between {word} n n"):
                self.refused(text, 0, 1)
            for text in (f"at n {word}", f"not at {word} 0", f"between 3 {word}", f"higher 0,0 {word} 0,0 n"):
                self.refused(text, 0, 2)
            for text in (f"between 0 n {word}", f"any 2 at {word}", f"between n n+1 {word} n"):
                self.refused(text, 0, 3)
            self.refused(f"even 0,0 n 1,1 {word}", 0, 4)

    def test_tones_that_cannot_stand(self):
        for word in BAD_TONES:
            if " " not in word:
                for text in (f"higher {word}", f"even {word} n 0,0 n"):
                    self.refused(text, 0, 1)
                for text in (f"higher 0,0 n {word}", f"even 0,0 n {word} n"):
                    self.refused(text, 0, 3)

    def test_heads_and_counts_that_cannot_stand(self):
        for word in BAD_HEADS:
            self.refused(word, 0, 0)
            self.refused(f"{word} n n", 0, 0)
            self.refused(f"not {word} n n", 0, 1)
            self.refused(f"all 2 at n 0 {word}", 0, 5)
        for word in BAD_COUNTS:
            self.refused(f"all {word}", 0, 1)
            self.refused(f"any {word} at n 0", 0, 1)
            self.refused(f"not any {word} at n 0", 0, 2)

    def test_words_that_are_missing(self):
        for saying in some_sayings()[::3] + comparisons()[::5]:
            words = words_of(saying).split(" ")
            for many in range(1, len(words)):
                self.refused(" ".join(words[:many]), 0, many)
        for many in range(1, 13):
            self.refused(" ".join(["all", str(many)] + ["any 0"] * (many - 1)), 0, 2 * many)
        self.refused("not", 0, 1)
        self.refused("all", 0, 1)

    def test_words_too_many(self):
        for saying in some_sayings()[::3] + comparisons()[::5]:
            text = words_of(saying)
            many = len(text.split(" "))
            for word in ("n", "4", "at n 0", "", "-", "all 0"):
                self.refused(f"{text} {word}", 0, many)
        self.refused("all 0 at n 0", 0, 2)
        self.refused("any 1 at n 0 at n 0", 0, 5)

    def test_empty_words_and_lines(self):
        for text, word in (("", 0), (" ", 0), (" at n 0", 0), ("at  n 0", 1), ("at n  0", 2), ("at n 0 ", 3), ("at n ", 2),
                           ("  ", 0), ("not  at n 0", 1), ("all 0  ", 2), ("\n", 0), ("\nat n 0", 0), (" \nat n 0", 0)):
            self.refused(text, 0, word)

    def test_lines_too_many(self):
        for text in ("at n 0\n", "at n 0\nat n 0", "at n 0\n\n", "all 0\n ", "not any 0\nwhere"):
            self.refused(text, 1, 0)
        self.refused("at n\n0", 0, 2)
        self.refused("at n 0 4\n", 0, 3)
        self.refused("at\n", 0, 1)

    def test_errors_of_the_classes_from_the_inside_and_the_left(self):
        deep, span, many = TooMany("deep", 6), TooMany("span", 48), TooMany("comparisons", 12)
        far, six, inner = "all 2 at n-12 12 at n+12 -12 ", "not not not not not not at n 0", "all 7" + " at n 0" * 7
        wide = "higher 0,20 12 0,-20 0"
        check_raises(self, span, read_saying, wide)
        check_raises(self, deep, read_saying, six)
        for text, error in ((f"all 2 {six} {wide}", deep), (f"all 2 {wide} {six}", span), (f"not {wide}", span),
                            (f"any 2 {inner} {inner}", many), (f"any 3 {inner} {inner} {six}", deep),
                            (f"any 3 {inner} {inner} {wide}", span), (f"not any 2 {inner} {inner}", many),
                            (f"all 2 all 2 {inner} {inner} {wide}", many), (f"all 2 {wide} all 2 {inner} {inner}", span)):
            check_raises(self, error, read_saying, text)
        check_same(self, read_saying(far.strip()).span, 48)
        # A word that cannot stand comes ahead of all of these.
        self.refused(f"all 2 {six} {wide} n", 0, 16)
        self.refused(f"all 2 {six} {wide[:-1]}n+0", 0, 15)

    def test_deep_and_long_texts(self):
        for many in (6, 7, 300, 1900):
            check_raises(self, TooMany("deep", 6), check_quick, self, read_saying, "not " * many + "at n 0")
            self.refused("not " * many + "at n", 0, many + 2)
            self.refused("not " * many, 0, many)
            self.refused("not " * many + "at n 0 0", 0, many + 3)
        check_same(self, read_saying("not " * 5 + "at n 0").deep, 6)
        check_same(self, read_saying("all 12" + " any 0" * 12), All(*[Any()] * 12))
        text = "all 3 " * 600 + "any 0 " * 1201
        check_raises(self, TooMany("deep", 6), check_quick, self, read_saying, text.strip())
        self.refused("all 12 " * 900, 0, 1800)

    def test_great_sayings(self):
        saying = All(*[All(*[Any(*[All(*[Any()] * 12)] * 12)] * 3)] * 2)
        text = check_quick(self, saying_text, saying)
        check_same(self, check_quick(self, read_saying, text) == saying, True)
        check_raises(self, BadText(0, len(text.split(" "))), check_quick, self, read_saying, text + " n")


class SentenceTest(unittest.TestCase):
    def refused(self, text, line, word):
        check_raises(self, BadText(line, word), read_sentence, text)

    def test_first_words(self):
        for word in ("", "-", "Some", "any", "all", "not", "at", "from", "n", "where", "every"):
            self.refused(word, 0, 0)
            self.refused(f"{word} at n 0", 0, 0)
        for word in ("some", "each"):
            self.refused(word, 0, 1)
            self.refused(f"{word} ", 0, 1)
            self.refused(f"{word} {word} at n 0", 0, 1)

    def test_starts(self):
        for word in BAD_STARTS:
            self.refused(f"some from {word} at n 0", 0, 2)
            self.refused(f"each from {word}", 0, 2)
        for start in (0, 1, -1, MOST, -MOST):
            check_same(self, read_sentence(f"each from {start} any 0"), Each(Any(), start))
        self.refused("some from", 0, 2)
        self.refused("some from 3", 0, 3)
        self.refused("some from 3 from 4 at n 0", 0, 3)
        self.refused("some From 3 at n 0", 0, 1)

    def test_words_of_the_saying(self):
        for words, word in (("some at n", 3), ("some at n n+0", 3), ("each not", 2), ("each from 1 at n 0 0", 6),
                            ("each from 1 at  n", 4), ("some all 13", 2), ("some at n 0 ", 4)):
            self.refused(words, 0, word)
        for text in ("some at n 0\n", "each from 1 all 0\neach all 0"):
            self.refused(text, 1, 0)
        self.refused("some at n\n 0", 0, 3)
        check_raises(self, TooMany("deep", 6), read_sentence, "some " + "not " * 500 + "all 0")


class BookTest(unittest.TestCase):
    def refused(self, text, line, word):
        check_raises(self, BadText(line, word), read_book, text)

    def test_the_first_line(self):
        for text in ("", " ", "-", "Where 11111", "promise a some all 0", "11111", "\nwhere 11111", "where\t11111", " where 11111",
                     "show", "wherever 1"):
            self.refused(text, 0, 0)
        for text, word in (("where", 1), ("where ", 1), ("where 0", 2), ("where 1 11111", 3), ("where 0 10100 0000", 3),
                           ("where 2", 1), ("where 111111", 1), ("where  11111", 1), ("where 11111 ", 2), ("where 11111 0", 2),
                           ("where 0 10100 00000 00000", 4), ("where 01 10100 00000", 1), ("where every", 1), ("where -", 1),
                           ("where 1111\n", 1)):
            self.refused(text, 0, word)

    def test_trees_that_are_not_the_least_ones(self):
        for text in ("where 1 11110 11110", "where 0 0 00000 00000 00000", "where 1 11110 11110\npromise"):
            self.refused(text, 0, 1)
        self.refused("where 1 11110 11110 0", 0, 4)
        self.refused("where 1 11110 11110 \n", 0, 4)

    def test_lines_of_promises(self):
        for line, word in (("", 0), ("-", 0), ("promises a some all 0", 0), ("Promise a some all 0", 0), (" promise", 0),
                           ("where 11111", 0), ("promise", 1), ("promise ", 1), ("promise  a some all 0", 1),
                           ("promise A some all 0", 1), ("promise a1 some all 0", 1), ("promise abcdefghi some all 0", 1),
                           ("promise m", 2), ("promise m ", 2), ("promise m all 0", 2), ("promise m some", 3),
                           ("promise m some from", 4), ("promise m some from x all 0", 4), ("promise m some all 0 0", 5),
                           ("promise m some all 0 ", 5), ("promise m each from 1 at n n+0", 7), ("promise some some all 13", 4)):
            self.refused("where 11111\n" + line, 1, word)
            self.refused("where 11111\npromise b some all 0\n" + line, 2, word)
            self.refused("where 11111\npromise b some all 0\n" + line + "\nno", 2, word)
        self.refused("where 11111\n", 1, 0)
        self.refused("where 11111\npromise b some all 0\n", 2, 0)

    def test_names_that_are_not_greater(self):
        for names, line in ((["b", "a"], 2), (["b", "b"], 2), (["a", "c", "b"], 3), (["ab", "a"], 2), (["z", "aaaaaaaa"], 2)):
            lines = [f"promise {name} some all 0" for name in names]
            self.refused("\n".join(["where 11111"] + lines), line, 1)
        self.refused("where 11111\npromise b some all 0\npromise a some at n", 2, 1)
        names = sorted(["n", "from", "all", "promise", "where", "not", "a", "zzzzzzzz"])
        book = read_book("\n".join(["where 11111"] + [f"promise {name} some all 0" for name in names]))
        check_same(self, book.names, tuple(names))

    def test_errors_of_the_classes_line_by_line(self):
        deep = "not " * 9 + "all 0"
        far = "higher 0,20 12 0,-20 0"
        never, always = "some any 0", "some all 0"
        many = "where " + "0 00000 " * 201 + "10000"
        broken = Broken("a", Fails(Ratio(1, 2), None, None))
        for lines, error in (([f"a {never}", f"b some {deep}"], broken), ([f"a some {deep}", f"b {never}"], TooMany("deep", 6)),
                             ([f"a {always}", f"b some {far}", f"c some {deep}"], TooMany("span", 48)),
                             ([f"{name} {always}" for name in "abcdefghi"], TooMany("promises", 8)),
                             ([f"{name} {always}" for name in "abcdefgh"] + [f"i some {deep}"], TooMany("deep", 6)),
                             ([f"{name} {always}" for name in "bcdefghi"] + [f"j {never}"], TooMany("promises", 8))):
            check_raises(self, error, read_book, "\n".join(["where 11111"] + ["promise " + line for line in lines]))
            with_levels = "\n".join([many] + ["promise " + line for line in lines])
            check_raises(self, TooMany("levels", 200), read_book, with_levels)
        # All words must be able to stand, ahead of this.
        self.refused(f"where 11111\npromise a {never}\npromise b some {deep} n", 2, 14)
        self.refused(f"{many}\npromise a {never}\npromise b", 2, 2)

    def test_long_texts(self):
        text = "where 11111" + "\npromise a some all 0" * 5000
        check_raises(self, BadText(2, 1), check_quick, self, read_book, text)
        text = "where " + "0 " * 100000
        check_raises(self, BadText(0, 100001), check_quick, self, read_book, text)
        check_raises(self, TooMany("levels", 200), check_quick, self, read_book, "where " + "0 00000 " * 20000 + "10000")
        book = Book(Region.none())
        book["a"] = Each(said.widest())
        check_same(self, check_quick(self, read_book, book_text(book)), book)

    def test_nothing_else_is_raised(self):
        """Texts with a word taken away, exchanged or put in are read as they are told, or refused."""
        texts = [sentence_words(one) for one in sentences([None, 3])[::9]]
        books = ["where 0 10100 00000\npromise a some at n 0\npromise b each from 1 all 0"]
        pool = ["n", "0", "at", "all", "not", "", "-", "from", "2", "1,1", "00000"]
        for read, write, told in ((read_sentence, sentence_text, texts), (read_book, book_text, books)):
            for text in told:
                words = text.split(" ")
                for at, word in itertools.product(range(0, len(words), 2), pool):
                    for changed in (words[:at] + words[at + 1:], words[:at] + [word] + words[at + 1:], words[:at] + [word] + words[at:]):
                        self.check_read(read, write, " ".join(changed))

    def check_read(self, read, write, text):
        try:
            check_same(self, write(read(text)), text)
        except FifthError:
            pass


if __name__ == "__main__":
    unittest.main()
