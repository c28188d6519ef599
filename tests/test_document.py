"""The whole document: its names and arguments, and every example, with what earlier ones imported and bound."""

import importlib
import inspect
import unittest

from tests.support import check_examples

# The functions and classes of each file, and the methods, properties and class values of a class, with their
# arguments as the document names them.
INTERFACE = """
errors FifthError BadInput Refused NoAnswer BadRatio(part) BadFifth(value) BadNumber(value) BadPiece(part)
errors BadTruth(value) BadTone(part) BadTerm(part) BadSaying(part) BadRegion(value) BadScale(at) BadMove(at)
errors BadRound(part) BadName(value) BadText(line,word) BadCommand(word) NoDivisor() NoName(name)
errors Meets(one,other,at) TooMany(what,most) Broken(name,verdict) NoChange()
ratios Ratio(top,bottom=1) Ratio.is_whole Ratio.over(number) Ratio.is_number(value) Ratio.is_fifth(value)
ratios Ratio.of(number) Ratio.total(numbers) Ratio.read(text) Ratio.__str__ Ratio.__eq__ Ratio.__bool__ Ratio.__abs__
ratios Ratio.__add__ Ratio.__radd__ Ratio.__sub__ Ratio.__rsub__ Ratio.__mul__ Ratio.__rmul__ Ratio.__floordiv__
ratios Ratio.__rfloordiv__ Ratio.__mod__ Ratio.__rmod__ Ratio.__neg__ Ratio.__lt__ Ratio.__le__ Ratio.__gt__ Ratio.__ge__
pieces Piece(left,right) Piece.whole() Piece.middle Piece.halves Piece.reach Piece.ratio(u,v) Piece.spot(fifth)
pieces Piece.kind(fifth) Piece.__contains__ Piece.__le__ Piece.__eq__ Piece.__str__ Piece.read(text)
pieces fractions_to(most,*,backward=False) pieces_to(most,*,backward=False) simplest(low,high) path(fifth)
pieces ratio_by(*quotients) piece_at(fifth,most) met(number,piece)
regions Region Region.LEVELS Region.MOST Region.KINDS Region.every() Region.none() Region.rational()
regions Region.only(*fifths) Region.stretch(low,high) Region.beside(fifth,side) Region.leaf(middle,left,right,other,bare)
regions Region.joined(truth,left,right) Region.__invert__ Region.__and__ Region.__or__ Region.__sub__ Region.__xor__
regions Region.__le__ Region.__lt__ Region.__ge__ Region.__gt__ Region.__eq__ Region.__contains__ Region.__bool__
regions Region.__len__ Region.parts() Region.backward() Region.middles() Region.truths_on(piece) Region.listed(most)
regions Region.simplest() Region.mirrored() Region.__str__ Region.read(text)
tones Tone(octaves,fifths=0) Tone.__call__(fifth) Tone.__add__ Tone.__sub__ Tone.__neg__ Tone.__mul__ Tone.__rmul__
tones Tone.__eq__ Tone.__bool__ Tone.__str__ Tone.read(text) Tone.above(other) Tone.level(other) position(number,piece)
rings Ring(piece,*numbers) Ring.__len__ Ring.__contains__ Ring.place(number) Ring.after(number) Ring.before(number)
rings Ring.walk(number) Ring.is_between(first,middle,last) Ring.arcs() Ring.arc(number) Ring.__call__(fifth)
rings Ring.on(piece) Ring.__eq__ Arc(low,high,left,right,width) Arc.count(u,v) Arc.__eq__
scales Scale(*numbers) Scale.MOST Scale.numbers Scale.__len__ Scale.__contains__ Scale.__iter__ Scale.backward()
scales Scale.__getitem__ Scale.__setitem__ Scale.drop(k) Scale.put(number) Scale.cut(first,end) Scale.__iadd__
scales Scale.__add__ Scale.__neg__ Scale.twin() Scale.__call__(fifth) Scale.groups(fifth) Scale.ordered(piece)
scales Scale.steps(piece) Scale.apart() Scale.order_region(numbers) Scale.__eq__ Scale.__str__ Scale.read(text)
terms Term Note(number) Moving(number) Term.is_moving Term.note(n) Term.position(n,fifth) Term.moved(number)
terms Term.mirrored() Term.__eq__ Height(tone,term) Height.pitch(n,fifth) Height.moved(number) Height.mirrored() Height.__eq__
sayings Saying Comparing Levelled Joined Paired At(one,other) Below(one,other) Between(first,inside,last)
sayings Higher(one,other) Even(one,other) All(*sayings) Any(*sayings) Not(saying) Saying.MOST Saying.MOST_DEEP
sayings Saying.MOST_SPAN Saying.marks Saying.span Saying.deep Saying.parts() Saying.__call__(n,fifth) Saying.__and__
sayings Saying.__or__ Saying.__invert__ Saying.__eq__ Saying.moved(number) Saying.mirrored() Saying.truths(ring)
tallies settled(saying) tally(saying) Tally Tally.parts() Tally.backward() Tally.middles() Tally.__len__
tallies Tally.__call__(fifth) Tally.part_at(fifth) Tally.__eq__ Tally.mirrored() Part(piece,x,y,z,share) Part.count(u,v)
tallies Part.__eq__ count(saying,fifth) holding(saying,fifth) share(saying,piece)
sentences Sentence Some(saying,start=None) Each(saying,start=None) Sentence.__call__(fifth) Sentence.region()
sentences Sentence.__invert__ Sentence.__eq__ judge(sentence,where=None) Verdict Verdict.__bool__ Verdict.__eq__
sentences Holds() Fails(fifth,n,piece) paper(sentence)
firsts first_n(saying,fifth,start=0) last_n(saying,fifth,start=0) how_many(saying,fifth,begin,end)
firsts nth(saying,fifth,k,start=0) first_in(fifth,low,high,start=0)
melodies Move Shift(tone) Bring(tone) Move.__eq__ Melody(start,*moves) Melody.__len__ Melody.height
melodies Melody.after(pitch,fifth) Melody.pitch(n,fifth) Melody.played(n,fifth) Melody.alike(other) Melody.above(other)
melodies Melody.__add__ Melody.__eq__
lookers shows_ring(piece,numbers,order) shows_part(saying,value,order) region_of(sentence,rows)
lookers shows_region(sentence,value,rows) shows_verdict(sentence,where,value,rows) shows_first(saying,fifth,start,value)
books Book(where=None) Book.MOST Book.where Book.set_where(region) Book.promise(name,sentence) Book.__setitem__
books Book.__getitem__ Book.drop(name) Book.__contains__ Book.__len__ Book.names Book.widest() Book.undo() Book.changes
books Book.trial() Book.tried(work) Book.twin() Book.__eq__
texts saying_text(saying) sentence_text(sentence) book_text(book)
reader read_saying(text) read_sentence(text) read_book(text)
desk Desk() Desk.ask(line) Desk.__call__(line) Desk.run(*lines) Desk.twin_book() Desk.__len__
"""

EXAMPLES = r"""
>>> from anyfifth.ratios import Ratio
>>> half = Ratio(2, 4)
>>> [str(half), str(1 - half), str(half.over(3)), 3 // half, str(Ratio(7, 2) % 2), str(-half % 1), str(abs(-half) + 1)]
['1/2', '1/2', '1/6', 6, '3/2', '1/2', '3/2']
>>> [half < 1, half == Ratio(-1, -2), Ratio(4, 2) == 2, Ratio(1) == True, Ratio.is_fifth(half), Ratio.is_fifth(1), str(Ratio.total([half, 3]))]
[True, True, True, False, True, False, '7/2']
>>> Ratio("1", 0)
raises BadRatio('top')
>>> Ratio(1, 0)
raises NoDivisor()
>>> Ratio.read("2/4")
raises BadText(0, 0)
>>> from anyfifth.pieces import Piece, fractions_to, met, path, piece_at, pieces_to, ratio_by, simplest
>>> piece = Piece(half, Ratio(3, 5))
>>> [str(piece.middle), piece.reach, [str(one) for one in piece.halves], str(piece.ratio(2, 1)), piece.spot(Ratio(7, 12)), str(Piece.whole())]
['4/7', 7, ['1/2 4/7', '4/7 3/5'], '5/9', (1, 2), '0/1 1/1']
>>> [[piece.kind(Ratio(p, q)) for p, q in [(4, 7), (5, 9), (7, 12), (11, 19)]], half in piece, piece <= Piece.whole()]
[['middle', 'left', 'right', 'other'], False, True]
>>> [[str(one) for one in pieces_to(3)], [str(one) for one in fractions_to(4, backward=True)]]
[['0/1 1/3', '1/3 1/2', '1/2 2/3', '2/3 1/1'], ['3/4', '2/3', '1/2', '1/3', '1/4']]
>>> [str(simplest(Ratio(1, 3), Ratio(2, 5))), path(Ratio(5, 12)), path(half), path(Ratio(2, 3)), str(ratio_by(2, 2, 2))]
['3/8', (2, 2, 2), (2,), (1, 2), '5/12']
>>> [str(piece_at(Ratio(5, 12), 7)), piece_at(Ratio(2, 5), 7), str(met(18, piece)), met(6, piece), str(met(-14, piece))]
['2/5 3/7', None, '5/9', None, '4/7']
>>> Piece(0, Ratio(2, 3))
raises BadPiece('neighbours')
>>> piece.spot(half)
raises BadFifth(Ratio(1, 2))
>>> from anyfifth.regions import Region
>>> odd = Region.beside(Ratio(1, 2), "left")
>>> [[str(one) for one in odd.listed(9)], len(odd), str(odd), Ratio(3, 8) in odd, odd.mirrored() == Region.beside(Ratio(1, 2), "right")]
[['1/3', '2/5', '3/7', '4/9'], 2, '0 10100 00000', False, True]
>>> [str(one) for one in Region.beside(Ratio(2, 5), "left").listed(13)]
['1/3', '3/8', '5/13']
>>> [(str(piece.middle), truths) for piece, truths in odd.parts()]
[('1/3', (True, False, True, False, False)), ('2/3', (False, False, False, False, False))]
>>> [odd.truths_on(Piece(Ratio(1, 3), Ratio(1, 2))), odd.truths_on(Piece.whole()), [(str(one), truth) for one, truth in odd.middles()]]
[(True, False, True, False, False), None, [('1/2', False)]]
>>> wide = Region.stretch(0, Ratio(1, 2)) - odd
>>> [str(wide), str(wide.simplest()), wide < Region.stretch(0, Ratio(1, 2)), bool(wide & odd), str(Region.rational()), str(~Region.rational())]
['0 01011 00000', '1/4', True, False, '11110', '00001']
>>> [str(Region.only(Ratio(1, 2))), str(Region.only(Ratio(2, 5))), len(Region.only(Ratio(1, 202))), str(Region.joined(False, odd, Region.none()).simplest())]
['10000', '0 0 00000 10000 00000', 201, '1/4']
>>> Region.only(Ratio(1, 203))
raises TooMany('levels', 200)
>>> Region.read("0 10100")
raises BadText(0, 2)
>>> Region.read("1 11110 11110")
raises BadText(0, 0)
>>> from anyfifth.tones import Tone, position
>>> sharp = Tone(-4, 7)
>>> [str(sharp), str(sharp(Ratio(7, 12))), str(sharp * 2 - Tone(1)), str(position(7, Piece(Ratio(4, 7), Ratio(3, 5)))), str(position(0, Piece.whole()))]
['-4,7', '1/12', '-9,14', '-4,7', '0,0']
>>> [Tone(0, 1).above(Tone(1, -1)) == Region.stretch(Ratio(1, 2), 1), Tone(0, 2).level(Tone(1)) == Region.only(Ratio(1, 2)), Tone(1).above(Tone(0, 1)) == Region.every()]
[True, True, True]
>>> position(-3, Piece.whole())
raises Meets(-3, 0, Ratio(1, 3))
>>> from anyfifth.rings import Arc, Ring
>>> piece = Piece(Ratio(1, 2), 1)
>>> ring = Ring(piece, 1, 2)
>>> [ring.order, ring(Ratio(3, 5)), ring.after(1), ring.before(0), ring.place(1), ring.is_between(0, 2, 1), ring.is_between(1, 2, 0), list(ring.walk(2))]
[(0, 2, 1), (0, 1, 3), 0, 1, 2, True, False, [2, 1, 0]]
>>> [(arc.low, arc.high, arc.left, arc.right, str(arc.width), arc.count(2, 1)) for arc in ring.arcs()]
[(0, 2, 0, 1, '-1,2', 0), (2, 1, 1, 0, '1,-1', 1), (1, 0, 1, 0, '1,-1', 1)]
>>> [Ring(Piece.whole()).order, Ring(Piece.whole()).arc(0) == Arc(0, 0, 1, 1, Tone(1)), ring.on(Piece(Ratio(1, 2), Ratio(2, 3))).order]
[(0,), True, (0, 2, 1)]
>>> Ring(piece, 3, 6)
raises Meets(0, 3, Ratio(2, 3))
>>> from anyfifth.scales import Scale
>>> scale = Scale(0, 7, 2)
>>> high = Piece(Ratio(4, 7), Ratio(3, 5))
>>> [scale(Ratio(7, 12)), scale.groups(Ratio(2, 5)), scale.ordered(high), [(str(tone), many) for tone, many in scale.steps(high)]]
[(0, 1, 2), ((0,), (7, 2)), (0, 7, 2), [('3,-5', 1), ('2,-2', 1), ('-4,7', 1)]]
>>> [Ratio(2, 5) in scale.apart(), Ratio(7, 12) in scale.order_region((7, 2, 0)), str(scale + 2), str(-scale), list(scale.cut(1, 3))]
[False, True, '2 9 4', '0 -7 -2', [7, 2]]
>>> scale.ordered(Piece.whole())
raises Meets(0, 2, Ratio(1, 2))
>>> Scale(3, 13, 3)
raises BadScale(1)
>>> from anyfifth.terms import Height, Moving, Note
>>> [Moving(7).note(5), str(Moving(2).position(1, Ratio(3, 5))), Note(3).mirrored() == Note(-3)]
[12, '4/5', True]
>>> lifted = Height(Tone(1, -1), Moving(1))
>>> [str(lifted.pitch(0, Ratio(3, 5))), lifted.mirrored() == Height(Tone(0, 1), Moving(-1))]
['1/1', True]
>>> Moving(12).moved(1)
raises BadTerm('number')
>>> from anyfifth.sayings import All, Any, At, Below, Between, Even, Higher, Not, Saying
>>> inside = Between(Note(0), Moving(0), Note(1))
>>> two = inside & ~Between(Note(0), Moving(0), Note(2))
>>> [two.marks, two.span, two.deep, two(2, Ratio(3, 5)), two(1, Ratio(3, 5)), ~~two == two]
[(0, 1, 2), 2, 3, True, False, True]
>>> two.truths(ring)
((False, True, False), (False, True, False))
>>> wraps = Below(Moving(1), Moving(0))
>>> [wraps.marks, [wraps(n, Ratio(2, 5)) for n in range(5)], wraps.truths(Ring(Piece.whole(), -1))]
[(-1, 0), [False, False, True, False, True], ((False, True), (False, True))]
>>> same = Even(Height(Tone(0), Note(0)), Height(Tone(0), Moving(0)))
>>> [same.marks, same(0, Ratio(2, 5)), same(1, Ratio(2, 5)), same.truths(Ring(Piece.whole()))]
[(0,), True, False, ((True,), (False,))]
>>> At(Moving(-12), Note(12)) & Higher(Height(Tone(0, 1), Moving(12)), Height(Tone(0), Note(-12)))
raises TooMany('span', 48)
>>> from anyfifth.tallies import Part, count, holding, settled, share, tally
>>> [[(str(part.piece), part.x, part.y, part.z, str(part.share)) for part in tally(inside).parts()], tally(inside)(Ratio(3, 7)), list(holding(inside, Ratio(3, 7)))]
[[('0/1 1/1', 0, 1, -1, '0,1')], 2, [3, 5]]
>>> [[(str(part.piece), part.x, part.y, part.z, str(part.share)) for part in tally(two).parts()], [(str(fifth), many) for fifth, many in tally(two).middles()]]
[[('0/1 1/2', 0, 0, 0, '0,0'), ('1/2 1/1', 1, 0, 0, '1,-1')], [('1/2', 0)]]
>>> [str(piece) for piece in settled(two)], count(two, Ratio(10 ** 30 - 1, 10 ** 30)), str(share(two, Piece(Ratio(1, 2), 1))), share(two, Piece.whole())
(['0/1 1/2', '1/2 1/1'], 1, '1,-1', None)
>>> [[(part.x, part.y, part.z) for part in tally(All()).parts()], [(part.x, part.y, part.z) for part in tally(Any()).parts()]]
[[(1, 1, 0)], [(0, 0, 0)]]
>>> from anyfifth.sentences import Each, Fails, Holds, Some, judge, paper
>>> [Some(inside).region() == Region.leaf(False, False, True, True, True), (~Some(inside)).region() == Region.leaf(True, True, False, False, False), Some(inside)(Ratio(1, 5)), Some(inside)(Ratio(2, 5))]
[True, True, False, True]
>>> [judge(Some(inside)) == Fails(Ratio(1, 2), None, None), judge(Each(Not(inside)), Region.stretch(0, Ratio(1, 2))) == Fails(Ratio(2, 5), 3, None), bool(judge(Each(All())))]
[True, True, True]
>>> again = Some(At(Moving(0), Note(0)), 1)
>>> [again.region() == Region.rational(), judge(again) == Fails(None, None, Piece.whole()), Some(At(Moving(0), Note(-2)), 0).region() == Region.rational(), bool(judge(Some(At(Moving(0), Note(-2)))))]
[True, True, True, True]
>>> [(str(piece), order) for piece, order in paper(Some(two))]
[('0/1 1/2', (0, 1, 2)), ('1/2 1/1', (0, 2, 1))]
>>> from anyfifth.firsts import first_in, first_n, how_many, last_n, nth
>>> [first_n(inside, Ratio(5, 12)), last_n(inside, Ratio(5, 12)), nth(inside, Ratio(5, 12), 1), how_many(inside, Ratio(5, 12), 0, 24), first_n(inside, Ratio(1, 5))]
[3, -2, 5, 8, None]
>>> wide = Ratio(10 ** 39, 2 * 10 ** 39 + 1)
>>> [first_n(inside, wide), how_many(inside, wide, 0, 10 ** 39 * 2 + 1) == 10 ** 39 - 1, first_in(wide, 1, 1) == 2 * 10 ** 39 - 1, first_in(Ratio(5, 12), 0, 0, 1)]
[3, True, True, 12]
>>> first_in(Ratio(5, 12), 3, 2)
raises BadNumber(2)
>>> from anyfifth.melodies import Bring, Melody, Shift
>>> up = Shift(Tone(0, 1))
>>> low, moved = Melody(Tone(0), up, Bring(Tone(0))), Melody(Tone(0), up, Bring(Tone(-1, 2)))
>>> [[str(one) for one in low.played(3, Ratio(4, 5))], [str(one) for one in moved.played(3, Ratio(4, 5))], str(moved.pitch(10 ** 30, Ratio(3, 5)))]
[['0/1', '4/5', '3/5', '2/5'], ['0/1', '4/5', '3/5', '7/5'], '1/1']
>>> [moved.height == Height(Tone(-1, 2), Moving(-2)), first_n(Not(low.alike(moved)), Ratio(4, 5), 1), first_n(Not(low.alike(moved)), Ratio(3, 5), 1)]
[True, 3, 5]
>>> Each(low.alike(moved), 1).region() == Region.only(Ratio(1, 2))
True
>>> Melody(Tone(0), up, up, Bring(Tone(0)))
raises BadRound('fifths')
>>> from anyfifth.lookers import region_of, shows_first, shows_part, shows_region, shows_ring, shows_verdict
>>> [shows_ring(piece, [1, 2], (0, 2, 1)), shows_ring(piece, [1, 2], (0, 1, 2)), shows_ring(Piece.whole(), [2], (0, 2))]
[True, False, False]
>>> shows_part(two, Part(piece, 1, 0, 0, Tone(1, -1)), (0, 2, 1))
True
>>> some, rows = Some(two), ((Piece(0, Ratio(1, 2)), (0, 1, 2)), (piece, (0, 2, 1)))
>>> [rows == paper(some), shows_region(some, Region.stretch(Ratio(1, 2), 1), rows), region_of(some, rows[1:])]
[True, True, None]
>>> [shows_verdict(some, None, Fails(Ratio(2, 5), None, None), rows), shows_verdict(some, Region.stretch(Ratio(1, 2), 1), Holds(), rows), shows_first(inside, Ratio(5, 12), 0, 15)]
[True, True, False]
>>> from anyfifth.books import Book
>>> held = Some(inside)
>>> book = Book(Region.stretch(Ratio(1, 2), Ratio(3, 5)))
>>> book.promise("inside", held)
>>> book.promise("sharp", Each(Between(Moving(0), Moving(7), Moving(2))))
raises Broken('sharp', Fails(Ratio(4, 7), 0, None))
>>> book.set_where(Region.stretch(Ratio(4, 7), Ratio(3, 5)))
>>> book.promise("sharp", Each(Between(Moving(0), Moving(7), Moving(2))))
>>> [book.names, len(book), book.changes, "flat" in book, book.where <= book.widest()]
[('inside', 'sharp'), 2, 3, False, True]
>>> book.undo()
>>> [book.names, book.changes, str(book.widest()), book.tried(lambda same: same.drop("inside")) == held, "inside" in book]
[('inside',), 2, '00111', True, True]
>>> book.set_where(Region.every())
raises Broken('inside', Fails(Ratio(1, 2), None, None))
>>> from anyfifth.reader import read_book, read_saying, read_sentence
>>> from anyfifth.texts import book_text, saying_text, sentence_text
>>> saying_text(read_saying("all 2 between n+7 n n+2 not higher -4,7 n 0,0 3"))
'all 2 between n+7 n n+2 not higher -4,7 n 0,0 3'
>>> [read_saying("below n+1 n") == Below(Moving(1), Moving(0)), sentence_text(read_sentence("each from -3 at n 0"))]
[True, 'each from -3 at n 0']
>>> read_saying("at n")
raises BadText(0, 2)
>>> read_saying("at n n+0")
raises BadText(0, 2)
>>> read_saying("at n 3 4")
raises BadText(0, 3)
>>> read_saying("any 1")
raises BadText(0, 2)
>>> read_sentence("some from at n 0")
raises BadText(0, 2)
>>> read_book("where 0 10100")
raises BadText(0, 3)
>>> from anyfifth.desk import Desk
>>> desk = Desk()
>>> desk.run("names", "undo", "count 5/12 between 0 n 1", "first 5/12 0 between 0 n 1", "first 1/5 0 between 0 n 1")
['none', 'nothing', '4', '3', 'none']
>>> [desk("region some between 0 n 1"), desk("tally between 0 n 1"), desk("judge some between 0 n 1"), desk("promise up some at n 3"), desk("names")]
['00111', '0/1 1/1 0 1 -1 0,1', 'fails 1/2', 'ok', 'up']
>>> desk("count 5/5 at n 0")
raises BadText(0, 1)
"""


# One object of each class that never changes, and calls of what they can do.
OBJECTS = """
from anyfifth.errors import FifthError
from anyfifth.sayings import Saying
half, wide = Ratio(1, 2), Ratio(20, 49)
saying = Between(Note(0), Moving(0), Note(1))
height = Height(Tone(1, -1), Moving(1))
melody = Melody(Tone(0), Shift(Tone(0, 1)), Bring(Tone(0)))
region = Region.stretch(0, half) - Region.beside(half, "left")
objects = [half, Piece(half, 1), region, Tone(1, 2), Ring(Piece(half, 1), 1, 2), Arc(0, 1, 2, 3, Tone(1)), Note(1), Moving(2),
           height, At(Note(0), Moving(1)), Below(Note(0), Moving(1)), saying, Higher(height, height), Even(height, height),
           All(saying, All()), Any(saying), Not(saying), tally(saying), Part(Piece.whole(), 1, 1, 0, Tone(1)), Some(saying, 2),
           Each(saying), Holds(), Fails(half, 1, None), Shift(Tone(1)), Bring(Tone(1)), melody]
calls = [str, len, bool, list, hash, abs, lambda one: -one, lambda one: ~one, lambda one: one == one, lambda one: one != half,
         lambda one: one + half, lambda one: one - one, lambda one: one * 2, lambda one: one // half, lambda one: one % half,
         lambda one: one & one, lambda one: one | one, lambda one: one <= one, lambda one: half in one, lambda one: one(wide),
         lambda one: one(5, wide), lambda one: one.mirrored(), lambda one: one.moved(1), lambda one: list(one.parts()),
         lambda one: list(one.backward()), lambda one: list(one.middles()), lambda one: one.region(), lambda one: judge(one),
         lambda one: paper(one), lambda one: judge(one, region), lambda one: tally(one), lambda one: first_n(one, wide),
         lambda one: list(one.played(3, wide)), lambda one: one.pitch(3, wide), lambda one: one.above(one), lambda one: one.alike(one),
         lambda one: one + Bring(Tone(0)), lambda one: list(one.arcs()), lambda one: list(one.walk(1)), lambda one: one.halves,
         lambda one: saying_text(one), lambda one: sentence_text(one), lambda one: Book(one), lambda one: Book().promise("a", one),
         lambda one: list(one.listed(9)), lambda one: one.simplest(), lambda one: one.truths(Ring(Piece.whole(), 1)),
         lambda one: list(settled(one)), lambda one: count(one, wide), lambda one: one.part_at(wide), lambda one: one.note(3),
         lambda one: one.position(3, wide), lambda one: one.on(Piece(half, Ratio(2, 3))), lambda one: one.over(half),
         lambda one: region_of(one, paper(one)), lambda one: shows_first(one, wide, 0, 1), lambda one: one.count(2, 3)]
"""


class DocumentTest(unittest.TestCase):
    def test_names_and_arguments(self):
        for row in INTERFACE.strip().split("\n"):
            file, *told = row.split(" ")
            module = importlib.import_module("anyfifth." + file)
            for one in told:
                self.check_name(module, one)

    def check_name(self, module, told):
        """A name stands in its file or in its class itself, with these arguments."""
        name, _, given = told.partition("(")
        first, _, second = name.partition(".")
        value = getattr(module, first)
        self.assertEqual(value.__module__, module.__name__, told)
        if second:
            self.assertIn(second, vars(value), told)
            value = getattr(value, second)
        if told in ("NoDivisor()", "NoChange()", "Holds()"):
            self.assertIsInstance(value(), value)
        elif given:
            row = list(inspect.signature(value).parameters.values())
            # A method that is read off its class has its own object ahead of its arguments.
            row = [one for one in row if one.name != "self"]
            self.assertEqual(str(inspect.Signature(row)).replace(" ", ""), "(" + given, told)

    def test_the_errors_stand_below_one_another_as_told(self):
        module = importlib.import_module("anyfifth.errors")
        bases = {"FifthError": "ValueError", "BadInput": "FifthError", "Refused": "FifthError", "NoAnswer": "FifthError"}
        for name, value in vars(module).items():
            if inspect.isclass(value):
                expected = bases.get(name) or ("BadInput" if name.startswith("Bad") else "Refused")
                expected = "NoAnswer" if name == "NoChange" else expected
                self.assertEqual([one.__name__ for one in value.__bases__], [expected])

    def test_objects_never_change(self):
        names = {}
        for row in EXAMPLES.split("\n"):
            if row.startswith(">>> from "):
                exec(row[4:], names)
        exec(OBJECTS, names)
        for one in names["objects"]:
            before = dict(vars(one))
            for call in names["calls"]:
                try:
                    call(one)
                except (names["FifthError"], TypeError, AttributeError):
                    # Not each object has each method.
                    pass
            self.assertEqual(list(vars(one)), list(before), one)
            for name, value in before.items():
                self.assertIs(getattr(one, name), value, (one, name))
            self.assertEqual(repr(vars(one)), repr(before))

    def test_all_examples(self):
        check_examples(self, EXAMPLES, {})
        self.assertEqual(EXAMPLES.count(">>> "), 117)


if __name__ == "__main__":
    unittest.main()
