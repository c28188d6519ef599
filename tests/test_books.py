import itertools
import unittest

from anyfifth.books import Book
from anyfifth.errors import BadName, BadRegion, BadSaying, Broken, NoChange, NoName, TooMany
from anyfifth.pieces import Piece, ratio_by
from anyfifth.ratios import Ratio
from anyfifth.regions import Region
from anyfifth.sayings import All, Any, At, Between, Not
from anyfifth.sentences import Each, Fails, Sentence, Some, judge
from anyfifth.terms import Moving, Note
from tests import said
from tests.said import sentences
from tests.support import any_values, check_examples, check_quick, check_raises, check_same, some_wide_regions

EXAMPLES = """
>>> from anyfifth.books import Book
>>> held = Some(inside)
>>> book = Book(Region.stretch(Ratio(1, 2), Ratio(3, 5)))
>>> book.promise("inside", held)
>>> book.promise("sharp", Each(Between(Moving(0), Moving(7), Moving(2))))
raises Broken('sharp', Fails(Ratio(4, 7), 0, None))
>>> book.set_where(Region.stretch(Ratio(4, 7), Ratio(3, 5)))
>>> book.promise("sharp", Each(Between(Moving(0), Moving(7), Moving(2))))
>>> [book.names, len(book), book.changes, "flat" in book, book.where <= book.widest()]
[('inside', 'sharp'), 2, 3, False, True]
>>> book.undo()
>>> [book.names, book.changes, str(book.widest()), book.tried(lambda same: same.drop("inside")) == held, "inside" in book]
[('inside',), 2, '00111', True, True]
>>> book.set_where(Region.every())
raises Broken('inside', Fails(Ratio(1, 2), None, None))
"""

INSIDE = Between(Note(0), Moving(0), Note(1))
TWO = INSIDE & ~Between(Note(0), Moving(0), Note(2))
HELD, SHARP, ALWAYS = Some(INSIDE), Each(Between(Moving(0), Moving(7), Moving(2))), Each(All())
HIGH = Region.stretch(Ratio(4, 7), Ratio(3, 5))
NAMES = ["a", "z", "abcdefgh", "n", "from", "all", "zzzzzzzz", "flat"]
BAD_NAMES = ["", "abcdefghi", "A", "aB", "a1", "a b", "a_", " a", "a ", "a\n", "-", "1", b"a", ["a"], ("a",), "aaaaaaaaaaaa"]


def state_of(book):
    """All that a book tells."""
    return [book.where, book.names, [book[name] for name in book.names], book.changes, len(book)]


def history_of(book):
    """The states of a book, from now back to the first one."""
    twin = book.twin()
    found = [state_of(twin)]
    while twin.changes:
        twin.undo()
        found.append(state_of(twin))
    return found


def some_book():
    """A book with two promises and five changes."""
    book = Book(Region.stretch(Ratio(1, 2), Ratio(3, 5)))
    book.promise("inside", HELD)
    book.set_where(HIGH)
    book.promise("sharp", SHARP)
    book["sure"] = ALWAYS
    book.drop("sure")
    return book


class Stop(Exception):
    pass


class BookTest(unittest.TestCase):
    def check_unchanged(self, book, expected, call, *given):
        """A refused call changes nothing, also in what can be taken back."""
        before = history_of(book)
        check_raises(self, expected, call, *given)
        check_same(self, history_of(book), before)

    def test_examples(self):
        names = {}
        exec("from anyfifth.ratios import Ratio\nfrom anyfifth.regions import Region\n"
             "from anyfifth.terms import Moving, Note\nfrom anyfifth.sayings import Between\n"
             "from anyfifth.sentences import Each, Fails, Some\ninside = Between(Note(0), Moving(0), Note(1))", names)
        check_examples(self, EXAMPLES, names)

    def test_made(self):
        for region in some_wide_regions():
            for book in (Book(region), Book(where=region)):
                check_same(self, state_of(book), [region, (), [], 0, 0])
                check_same(self, book.widest(), Region.every())
        check_same(self, [Book().where, Book(None).where, Book.MOST], [Region.every(), Region.every(), 8])
        for value in any_values():
            if value is not None and not isinstance(value, Region):
                check_raises(self, BadRegion(value), Book, value)

    def test_promises_put_in_and_asked_for(self):
        for names in itertools.permutations(["a", "flat", "z"]):
            book = Book()
            for at, name in enumerate(names):
                if at % 2:
                    book[name] = ALWAYS
                else:
                    check_same(self, book.promise(name, ALWAYS), None)
                check_same(self, [book.names, len(book), book.changes], [tuple(sorted(names[:at + 1])), at + 1, at + 1])
                self.assertTrue(book[name] is ALWAYS and name in book)
        book.promise(sentence=Each(All(All())), name="flat")
        check_same(self, [book["flat"], book.names, book.changes], [Each(All(All())), ("a", "flat", "z"), 4])

    def test_names(self):
        book = Book()
        for name in NAMES:
            book.promise(name, ALWAYS)
        check_same(self, book.names, tuple(sorted(NAMES)))
        for value in any_values() + BAD_NAMES:
            check_same(self, value in book, value == "a")
            if value != "a":
                self.check_unchanged(book, BadName(value), book.promise, value, None)
                self.check_unchanged(book, BadName(value), book.__setitem__, value, ALWAYS)
                self.check_unchanged(book, NoName(value), book.drop, value)
                check_raises(self, NoName(value), lambda: book[value])
        check_raises(self, NoName("b"), lambda: book["b"])

    def test_eight_and_nine_promises(self):
        book = Book()
        for name in NAMES:
            book[name] = ALWAYS
        broken = Each(Any())
        self.check_unchanged(book, TooMany("promises", 8), book.promise, "more", ALWAYS)
        self.check_unchanged(book, TooMany("promises", 8), book.promise, "more", broken)
        self.check_unchanged(book, BadSaying("sentence"), book.promise, "more", INSIDE)
        self.check_unchanged(book, Broken("z", judge(broken)), book.promise, "z", broken)
        book["z"] = Some(All())
        check_same(self, [len(book), book["z"]], [8, Some(All())])
        book.drop("z")
        book["more"] = ALWAYS
        check_same(self, len(book), 8)

    def test_refuses_in_order(self):
        book = some_book()
        for name, sentence in itertools.product(["a", "A"], any_values()):
            if name == "A":
                check_raises(self, BadName("A"), book.promise, name, sentence)
            elif not isinstance(sentence, Sentence):
                self.check_unchanged(book, BadSaying("sentence"), book.promise, name, sentence)
                self.check_unchanged(book, BadSaying("sentence"), book.__setitem__, name, sentence)
        for value in any_values():
            if not isinstance(value, Region):
                self.check_unchanged(book, BadRegion(value), book.set_where, value)
                self.check_unchanged(book, BadRegion(value), setattr, book, "where", value)

    def test_broken_promises(self):
        wheres = some_wide_regions()
        for at, sentence in enumerate(sentences([None, 1, -4])[::2]):
            for where in wheres[at % 9::9]:
                book = Book(where)
                book["sure"] = ALWAYS
                verdict = judge(sentence, where)
                if verdict:
                    book.promise("it", sentence)
                    check_same(self, [book["it"], book.changes], [sentence, 2])
                else:
                    self.check_unchanged(book, Broken("it", verdict), book.promise, "it", sentence)
                    self.check_unchanged(book, Broken("sure", verdict), book.promise, "sure", sentence)

    def test_the_region_is_set(self):
        book = some_book()
        for region in (Region.only(Ratio(7, 12)), HIGH & Region.rational(), HIGH, Region.none(), book.widest()):
            check_same(self, book.set_where(region), None)
            check_same(self, book.where, region)
            book.where = HIGH
            check_same(self, book.where, HIGH)
        self.assertEqual(book.changes, 15)
        for region in (Region.every(), Region.only(Ratio(1, 2)), HIGH | Region.only(Ratio(4, 7)), ~book.widest()):
            verdicts = [judge(HELD, region), judge(SHARP, region)]
            name, verdict = ("sharp", verdicts[1]) if verdicts[0] else ("inside", verdicts[0])
            self.check_unchanged(book, Broken(name, verdict), book.set_where, region)
            self.check_unchanged(book, Broken(name, verdict), setattr, book, "where", region)
        elsewhere = Book()
        elsewhere.set_where(region=Region.only(Ratio(2, 5)))
        elsewhere["some"] = HELD
        elsewhere.where = Region.stretch(Ratio(1, 3), Ratio(2, 5))
        check_same(self, elsewhere.changes, 3)

    def test_the_least_name_is_told(self):
        book = Book(Region.none())
        for name in ("c", "b", "d"):
            book[name] = Each(Any())
        book["a"] = ALWAYS
        every = Fails(Ratio(1, 2), 0, None)
        self.check_unchanged(book, Broken("b", every), book.set_where, Region.every())
        book.drop("b")
        self.check_unchanged(book, Broken("c", every), book.set_where, Region.every())
        bare = Region.leaf(False, False, False, False, True)
        self.check_unchanged(book, Broken("c", Fails(None, None, Piece.whole())), book.set_where, bare)

    def test_too_many_parts_are_told_ahead_of_what_is_broken(self):
        chains = ~Region.only(*[ratio_by(quotient, 200 - quotient) for quotient in range(2, 12)])
        parts = Some(At(Moving(-12), Note(12)) & At(Moving(12), Note(-12)))
        error = TooMany("pieces", 2000)
        check_raises(self, error, judge, parts, chains)
        self.check_unchanged(Book(chains), error, Book(chains).promise, "a", parts)
        book = Book(parts.region())
        book["a"] = parts
        self.check_unchanged(book, error, book.set_where, chains)

    def test_drop(self):
        book = some_book()
        dropped = book.drop("inside")
        self.assertTrue(dropped is HELD)
        check_same(self, [book.names, book.changes, "inside" in book], [("sharp",), 6, False])
        self.check_unchanged(book, NoName("inside"), book.drop, "inside")
        check_same(self, [book.drop(name="sharp") is SHARP, book.names, len(book)], [True, (), 0])

    def test_widest(self):
        made = [Some(INSIDE), Each(Not(TWO)), Some(TWO, 2), SHARP, Each(Not(At(Moving(0), Note(0))), 1)]
        for one, other, last in itertools.combinations(made, 3):
            book = Book(Region.none())
            expected = Region.every()
            for name, sentence in (("one", one), ("other", other), ("last", last)):
                book[name] = sentence
                expected = expected & sentence.region()
                check_same(self, book.widest(), expected)
            book.where = book.widest()
            check_same(self, [book.where <= book.widest(), book.where], [True, expected])

    def test_undo_back_to_the_first_state(self):
        book = Book(HIGH)
        states = [state_of(book)]
        changes = [lambda: book.promise("a", HELD), lambda: book.promise("b", SHARP), lambda: book.promise("a", ALWAYS),
                   lambda: book.set_where(Region.only(Ratio(7, 12))), lambda: book.drop("b"),
                   lambda: book.set_where(book.where), lambda: book.promise("a", ALWAYS)]
        for change in changes:
            change()
            states.append(state_of(book))
        check_same(self, [state[3] for state in states], list(range(8)))
        while len(states) > 1:
            states.pop()
            check_same(self, book.undo(), None)
            check_same(self, state_of(book), states[-1])
        for _ in range(2):
            check_raises(self, NoChange(), book.undo)
            check_same(self, state_of(book), states[0])
        check_raises(self, NoChange(), Book().undo)

    def test_undo_and_new_changes(self):
        book = some_book()
        book.undo()
        check_same(self, [book.names, book.changes], [("inside", "sharp", "sure"), 4])
        book.undo()
        book["other"] = ALWAYS
        check_same(self, [book.names, book.changes], [("inside", "other", "sharp"), 4])
        book.undo()
        check_same(self, [book.names, book.changes], [("inside", "sharp"), 3])

    def test_many_changes(self):
        book = Book()

        def change():
            for _ in range(1000):
                book.where = Region.every()
                book["a"] = ALWAYS
            for _ in range(1999):
                book.undo()
        check_quick(self, change)
        check_same(self, [book.changes, book.names], [1, ()])

    def test_great_promises_are_quick(self):
        book = Book(Region.none())
        for name in ("a", "b"):
            check_quick(self, book.promise, name, Each(said.widest()))
        check_quick(self, lambda: [book.set_where(book.widest()), book.widest(), book.twin() == book])

    def test_what_is_returned_and_passed_stays(self):
        book = some_book()
        before = history_of(book)
        names = book.names
        self.assertIs(type(names), tuple)
        twin = book.twin()
        twin.drop("inside")
        check_same(self, [history_of(book), names], [before, ("inside", "sharp")])

    def test_twin(self):
        book = some_book()
        twin = book.twin()
        self.assertTrue(type(twin) is Book and twin is not book and twin == book)
        check_same(self, history_of(twin), history_of(book))
        before = history_of(book)
        twin.undo()
        twin["a"] = ALWAYS
        twin.where = Region.none()
        check_same(self, history_of(book), before)
        before = history_of(twin)
        book.drop("sharp")
        check_same(self, [history_of(twin), twin == book], [before, False])

    def test_equal(self):
        base = Book(HIGH)
        base["a"], base["b"] = HELD, SHARP
        other = Book(Region.none())
        other["b"], other["c"] = SHARP, ALWAYS
        other["a"] = Some(Between(Note(0), Moving(0), Note(1)))
        check_same(self, [base == other, base != other], [False, True])
        other.drop("c")
        check_same(self, [base == other, base != other], [False, True])
        other.where = HIGH
        check_same(self, [base == other, base != other, base.changes == other.changes], [True, False, False])
        other["b"] = Each(Between(Moving(0), Moving(7), Moving(2)), 0)
        check_same(self, base == other, False)
        other.drop("b")
        check_same(self, base == other, False)
        for value in any_values():
            check_same(self, [base == value, value == base], [False, False])
        check_same(self, Book() == Book(Region.every()), True)

    def test_each_method_stands_in_the_class(self):
        for name in ("where", "set_where", "promise", "__setitem__", "__getitem__", "drop", "__contains__", "__len__",
                     "names", "widest", "undo", "changes", "trial", "tried", "twin", "__eq__", "__init__"):
            self.assertIn(name, vars(Book))
        self.assertEqual(Book.__module__, "anyfifth.books")
        self.assertRaises(TypeError, iter, Book())


class TrialTest(unittest.TestCase):
    def change(self, book):
        """Change all that can be changed."""
        book["a"] = ALWAYS
        book.drop("inside")
        book.where = Region.only(Ratio(7, 12))
        book.promise("sharp", Some(All()))

    def test_behind_a_block_all_is_as_it_was(self):
        book = some_book()
        before = history_of(book)
        with book.trial() as same_book:
            self.assertIs(same_book, book)
            self.change(book)
            check_same(self, [book.names, book.changes], [("a", "sharp"), 9])
        check_same(self, history_of(book), before)

    def test_undo_inside(self):
        book = some_book()
        before = history_of(book)
        with book.trial():
            while book.changes:
                book.undo()
            check_raises(self, NoChange(), book.undo)
            book["new"] = ALWAYS
            check_same(self, [book.names, book.changes], [("new",), 1])
        check_same(self, history_of(book), before)

    def test_errors_go_on(self):
        book = some_book()
        before = history_of(book)
        for error in (Stop("word"), NoChange(), KeyboardInterrupt()):
            try:
                with book.trial():
                    self.change(book)
                    raise error
            except (Stop, NoChange, KeyboardInterrupt) as caught:
                self.assertIs(caught, error)
            else:
                self.fail("the error did not go on")
            check_same(self, history_of(book), before)
        with self.assertRaises(NoName):
            with book.trial():
                book.drop("inside")
                book.drop("inside")
        check_same(self, history_of(book), before)

    def test_a_block_begins_behind_with(self):
        book = Book()
        trial = book.trial()
        book["a"] = ALWAYS
        with trial:
            book.drop("a")
        check_same(self, [book.names, book.changes], [("a",), 1])

    def test_nested_blocks(self):
        book = some_book()
        first = history_of(book)
        with book.trial():
            book["a"] = ALWAYS
            second = history_of(book)
            with book.trial() as same_book:
                self.change(same_book)
                with book.trial():
                    while book.changes:
                        book.undo()
            check_same(self, history_of(book), second)
            with self.assertRaises(Stop):
                with book.trial():
                    book.undo()
                    book.undo()
                    raise Stop()
            check_same(self, history_of(book), second)
            book.drop("sharp")
        check_same(self, history_of(book), first)

    def test_blocks_that_end_by_return_and_break(self):
        book = some_book()
        before = history_of(book)

        def left():
            with book.trial():
                self.change(book)
                return book.names
        check_same(self, left(), ("a", "sharp"))
        for _ in range(3):
            with book.trial():
                self.change(book)
                break
        check_same(self, history_of(book), before)

    def test_tried(self):
        book = some_book()
        before = history_of(book)

        def work(told):
            self.assertIs(told, book)
            self.change(told)
            return told.names
        check_same(self, book.tried(work), ("a", "sharp"))
        check_same(self, [book.tried(work=len), book.tried(lambda told: None), book.tried(Book.twin) == book], [2, None, True])
        check_same(self, book.tried(lambda told: told.tried(work)), ("a", "sharp"))
        check_same(self, history_of(book), before)

        def broken(told):
            self.change(told)
            told.undo()
            raise Stop()
        self.assertRaises(Stop, book.tried, broken)
        check_raises(self, NoName("no"), book.tried, lambda told: told["no"])
        check_same(self, history_of(book), before)

    def test_two_books(self):
        one, other = some_book(), Book()
        before = history_of(one)
        with one.trial(), other.trial():
            other["a"] = ALWAYS
            one.drop("sharp")
        check_same(self, [history_of(one), state_of(other)], [before, state_of(Book())])

    def test_a_twin_of_a_block_lives_on(self):
        book = some_book()
        with book.trial():
            self.change(book)
            twin = book.twin()
        check_same(self, [twin.names, twin.changes, book.names], [("a", "sharp"), 9, ("inside", "sharp")])


if __name__ == "__main__":
    unittest.main()
