"""The whole document: its names and arguments, and every example, with what earlier ones imported and bound."""

import importlib
import inspect
import unittest

from tests.support import check_examples

# The functions and classes of each file, and the methods, properties and class values of a class, with their
# arguments as the document names them.
INTERFACE = """
errors FifthError BadInput Refused NoAnswer BadRatio(part) BadFifth(value) BadNumber(value) BadPiece(part)
errors BadTruth(value) BadTone(part) BadTerm(part) BadSaying(part) BadRegion(value) BadScale(at) BadMove(at)
errors BadRound(part) BadName(value) BadText(line,word) BadCommand(word) NoDivisor() NoName(name)
errors Meets(one,other,at) TooMany(what,most) Broken(name,verdict) NoChange()
ratios Ratio(top,bottom=1) Ratio.is_whole Ratio.over(number) Ratio.is_number(value) Ratio.is_fifth(value)
ratios Ratio.of(number) Ratio.total(numbers) Ratio.read(text) Ratio.__str__ Ratio.__eq__ Ratio.__bool__ Ratio.__abs__
ratios Ratio.__add__ Ratio.__radd__ Ratio.__sub__ Ratio.__rsub__ Ratio.__mul__ Ratio.__rmul__ Ratio.__floordiv__
ratios Ratio.__rfloordiv__ Ratio.__mod__ Ratio.__rmod__ Ratio.__neg__ Ratio.__lt__ Ratio.__le__ Ratio.__gt__ Ratio.__ge__
pieces Piece(left,right) Piece.whole() Piece.middle Piece.halves Piece.reach Piece.ratio(u,v) Piece.spot(fifth)
pieces Piece.kind(fifth) Piece.__contains__ Piece.__le__ Piece.__eq__ Piece.__str__ Piece.read(text)
pieces fractions_to(most,*,backward=False) pieces_to(most,*,backward=False) simplest(low,high) path(fifth)
pieces ratio_by(*quotients) piece_at(fifth,most) met(number,piece)
regions Region Region.LEVELS Region.MOST Region.KINDS Region.every() Region.none() Region.rational()
regions Region.only(*fifths) Region.stretch(low,high) Region.beside(fifth,side) Region.leaf(middle,left,right,other,bare)
regions Region.joined(truth,left,right) Region.__invert__ Region.__and__ Region.__or__ Region.__sub__ Region.__xor__
regions Region.__le__ Region.__lt__ Region.__ge__ Region.__gt__ Region.__eq__ Region.__contains__ Region.__bool__
regions Region.__len__ Region.parts() Region.backward() Region.middles() Region.truths_on(piece) Region.listed(most)
regions Region.simplest() Region.mirrored() Region.__str__ Region.read(text)
tones Tone(octaves,fifths=0) Tone.__call__(fifth) Tone.__add__ Tone.__sub__ Tone.__neg__ Tone.__mul__ Tone.__rmul__
tones Tone.__eq__ Tone.__bool__ Tone.__str__ Tone.read(text) Tone.above(other) Tone.level(other) position(number,piece)
rings Ring(piece,*numbers) Ring.__len__ Ring.__contains__ Ring.place(number) Ring.after(number) Ring.before(number)
rings Ring.walk(number) Ring.is_between(first,middle,last) Ring.arcs() Ring.arc(number) Ring.__call__(fifth)
rings Ring.on(piece) Ring.__eq__ Arc(low,high,left,right,width) Arc.count(u,v) Arc.__eq__
scales Scale(*numbers) Scale.MOST Scale.numbers Scale.__len__ Scale.__contains__ Scale.__iter__ Scale.backward()
scales Scale.__getitem__ Scale.__setitem__ Scale.drop(k) Scale.put(number) Scale.cut(first,end) Scale.__iadd__
scales Scale.__add__ Scale.__neg__ Scale.twin() Scale.__call__(fifth) Scale.groups(fifth) Scale.ordered(piece)
scales Scale.steps(piece) Scale.apart() Scale.order_region(numbers) Scale.__eq__ Scale.__str__ Scale.read(text)
terms Term Note(number) Moving(number) Term.is_moving Term.note(n) Term.position(n,fifth) Term.moved(number)
terms Term.mirrored() Term.__eq__ Note.is_moving Note.note(n) Note.position(n,fifth) Note.moved(number) Note.mirrored()
terms Moving.is_moving Moving.note(n) Moving.position(n,fifth) Moving.moved(number) Moving.mirrored()
terms Height(tone,term) Height.pitch(n,fifth) Height.moved(number) Height.mirrored() Height.__eq__
sayings Saying Comparing Levelled Joined Paired At(one,other) Below(one,other) Between(first,inside,last)
sayings Higher(one,other) Even(one,other) All(*sayings) Any(*sayings) Not(saying) Saying.MOST Saying.MOST_DEEP
sayings Saying.MOST_SPAN Saying.marks Saying.span Saying.deep Saying.parts() Saying.__call__(n,fifth) Saying.__and__
sayings Saying.__or__ Saying.__invert__ Saying.__eq__ Saying.moved(number) Saying.mirrored() Saying.truths(ring)
tallies settled(saying) tally(saying) Tally Tally.parts() Tally.backward() Tally.middles() Tally.__len__
tallies Tally.__call__(fifth) Tally.part_at(fifth) Tally.__eq__ Tally.mirrored() Part(piece,x,y,z,share) Part.count(u,v)
tallies Part.__eq__ count(saying,fifth) holding(saying,fifth) share(saying,piece)
sentences Sentence Some(saying,start=None) Each(saying,start=None) Sentence.__call__(fifth) Sentence.region()
sentences Sentence.__invert__ Sentence.__eq__ Some.region() Each.region() judge(sentence,where=None) Verdict Verdict.__bool__ Verdict.__eq__
sentences Holds() Fails(fifth,n,piece) paper(sentence)
firsts first_n(saying,fifth,start=0) last_n(saying,fifth,start=0) how_many(saying,fifth,begin,end)
firsts nth(saying,fifth,k,start=0) first_in(fifth,low,high,start=0)
melodies Move Shift(tone) Bring(tone) Move.__eq__ Melody(start,*moves) Melody.__len__ Melody.height
melodies Melody.after(pitch,fifth) Melody.pitch(n,fifth) Melody.played(n,fifth) Melody.alike(other) Melody.above(other)
melodies Melody.__add__ Melody.__eq__
lookers shows_ring(piece,numbers,order) shows_part(saying,value,order) region_of(sentence,rows)
lookers shows_region(sentence,value,rows) shows_verdict(sentence,where,value,rows) shows_first(saying,fifth,start,value)
books Book(where=None) Book.MOST Book.where Book.set_where(region) Book.promise(name,sentence) Book.__setitem__
books Book.__getitem__ Book.drop(name) Book.__contains__ Book.__len__ Book.names Book.widest() Book.undo() Book.changes
books Book.trial() Book.tried(work) Book.twin() Book.__eq__
texts saying_text(saying) sentence_text(sentence) book_text(book)
reader read_saying(text) read_sentence(text) read_book(text)
desk Desk() Desk.ask(line) Desk.__call__(line) Desk.run(*lines) Desk.twin_book() Desk.__len__
"""

# The files in the order of the document; the test of each one has the examples of its section.
FILES = ["ratios", "pieces", "regions", "tones", "rings", "scales", "terms", "sayings", "tallies", "sentences", "firsts",
         "melodies", "lookers", "books", "texts", "desk"]
EXAMPLES = "\n".join(importlib.import_module("tests.test_" + file).EXAMPLES for file in FILES)

# One object of each class that never changes, and calls of what they can do.
OBJECTS = """
from anyfifth.errors import FifthError
from anyfifth.sayings import Saying
half, wide = Ratio(1, 2), Ratio(20, 49)
saying = Between(Note(0), Moving(0), Note(1))
height = Height(Tone(1, -1), Moving(1))
melody = Melody(Tone(0), Shift(Tone(0, 1)), Bring(Tone(0)))
region = Region.stretch(0, half) - Region.beside(half, "left")
objects = [half, Piece(half, 1), region, Tone(1, 2), Ring(Piece(half, 1), 1, 2), Arc(0, 1, 2, 3, Tone(1)), Note(1), Moving(2),
           height, At(Note(0), Moving(1)), Below(Note(0), Moving(1)), saying, Higher(height, height), Even(height, height),
           All(saying, All()), Any(saying), Not(saying), tally(saying), Part(Piece.whole(), 1, 1, 0, Tone(1)), Some(saying, 2),
           Each(saying), Holds(), Fails(half, 1, None), Shift(Tone(1)), Bring(Tone(1)), melody]
calls = [str, len, bool, list, hash, abs, lambda one: -one, lambda one: ~one, lambda one: one == one, lambda one: one != half,
         lambda one: one + half, lambda one: one - one, lambda one: one * 2, lambda one: one // half, lambda one: one % half,
         lambda one: one & one, lambda one: one | one, lambda one: one <= one, lambda one: half in one, lambda one: one(wide),
         lambda one: one(5, wide), lambda one: one.mirrored(), lambda one: one.moved(1), lambda one: list(one.parts()),
         lambda one: list(one.backward()), lambda one: list(one.middles()), lambda one: one.region(), lambda one: judge(one),
         lambda one: paper(one), lambda one: judge(one, region), lambda one: tally(one), lambda one: first_n(one, wide),
         lambda one: list(one.played(3, wide)), lambda one: one.pitch(3, wide), lambda one: one.above(one), lambda one: one.alike(one),
         lambda one: one + Bring(Tone(0)), lambda one: list(one.arcs()), lambda one: list(one.walk(1)), lambda one: one.halves,
         lambda one: saying_text(one), lambda one: sentence_text(one), lambda one: Book(one), lambda one: Book().promise("a", one),
         lambda one: list(one.listed(9)), lambda one: one.simplest(), lambda one: one.truths(Ring(Piece.whole(), 1)),
         lambda one: list(settled(one)), lambda one: count(one, wide), lambda one: one.part_at(wide), lambda one: one.note(3),
         lambda one: one.position(3, wide), lambda one: one.on(Piece(half, Ratio(2, 3))), lambda one: one.over(half),
         lambda one: region_of(one, paper(one)), lambda one: shows_first(one, wide, 0, 1), lambda one: one.count(2, 3)]
"""


class DocumentTest(unittest.TestCase):
    def test_names_and_arguments(self):
        for row in INTERFACE.strip().split("\n"):
            file, *told = row.split(" ")
            module = importlib.import_module("anyfifth." + file)
            for one in told:
                self.check_name(module, one)

    def check_name(self, module, told):
        """A name stands in its file or in its class itself, with these arguments."""
        name, _, given = told.partition("(")
        first, _, second = name.partition(".")
        value = getattr(module, first)
        self.assertEqual(value.__module__, module.__name__, told)
        if second:
            self.assertIn(second, vars(value), told)
            value = getattr(value, second)
        if told in ("NoDivisor()", "NoChange()", "Holds()"):
            self.assertIsInstance(value(), value)
        elif given:
            if inspect.isclass(value):
                # How a class is made is told of this class, not of a base.
                self.assertIn("__init__", vars(value), told)
            row = list(inspect.signature(value).parameters.values())
            # A method that is read off its class has its own object ahead of its arguments.
            row = [one for one in row if one.name != "self"]
            self.assertEqual(str(inspect.Signature(row)).replace(" ", ""), "(" + given, told)

    def test_the_errors_stand_below_one_another_as_told(self):
        module = importlib.import_module("anyfifth.errors")
        bases = {"FifthError": "ValueError", "BadInput": "FifthError", "Refused": "FifthError", "NoAnswer": "FifthError"}
        for name, value in vars(module).items():
            if inspect.isclass(value):
                expected = bases.get(name) or ("BadInput" if name.startswith("Bad") else "Refused")
                expected = "NoAnswer" if name == "NoChange" else expected
                self.assertEqual([one.__name__ for one in value.__bases__], [expected])

    def test_objects_never_change(self):
        names = {}
        for row in EXAMPLES.split("\n"):
            if row.startswith(">>> from "):
                exec(row[4:], names)
        exec(OBJECTS, names)
        for one in names["objects"]:
            before = dict(vars(one))
            for call in names["calls"]:
                try:
                    call(one)
                except (names["FifthError"], TypeError, AttributeError):
                    # Not each object has each method.
                    pass
            self.assertEqual(list(vars(one)), list(before), one)
            for name, value in before.items():
                self.assertIs(getattr(one, name), value, (one, name))
            self.assertEqual(repr(vars(one)), repr(before))

    def test_all_examples(self):
        check_examples(self, EXAMPLES, {})
        self.assertEqual(EXAMPLES.count(">>> "), 117)


if __name__ == "__main__":
    unittest.main()
