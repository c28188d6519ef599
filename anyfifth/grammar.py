"""The words of sayings, sentences and regions: first all of them are read, then the thing is made."""

from anyfifth.errors import BadText
from anyfifth.plain import integer_in, is_from_to, is_name
from anyfifth.ratios import Ratio, ratio_in
from anyfifth.sayings import All, Any, At, Below, Between, Even, Higher, Not
from anyfifth.sentences import Each, Some
from anyfifth.terms import Height, Moving, Note, is_near
from anyfifth.tones import tone_in
from anyfifth.truths import tree_in

# How many terms, or heights, stand behind these words.
_TERMS = {"at": 2, "below": 2, "between": 3}
_HEIGHTS = {"higher": 2, "even": 2}
_HEADS = ("at", "below", "between", "higher", "even", "not", "all", "any")


def heads_in(row):
    """The heads of the sayings in a saying, as they follow one another in its text.

    A head is a tuple: the word, the list of the terms or heights behind it, and how many sayings follow.
    """
    heads, missing = [], 1
    while missing > 0:
        word = row.taken(_head_in)
        given, many = [], 0
        if word in _TERMS:
            given = [row.taken(_term_in) for _ in range(_TERMS[word])]
        elif word in _HEIGHTS:
            given = [_height_in(row) for _ in range(_HEIGHTS[word])]
        else:
            many = 1 if word == "not" else row.taken(_count_in)
        heads.append((word, given, many))
        missing = missing - 1 + many
    return heads


def saying_of(heads):
    """The saying with these heads, made from the inside and from the left."""
    saying, waiting = None, []
    for word, given, many in heads:
        if many > 0:
            waiting.append((word, many, []))
            continue
        saying = _made(word, given)
        while waiting:
            last, size, parts = waiting[-1]
            parts.append(saying)
            if len(parts) < size:
                break
            waiting.pop()
            saying = _made(last, parts)
    return saying


def told_in(row):
    """What a sentence is made of: its word, its start and the heads of its saying."""
    word = row.taken(_beginning_in)
    start = row.taken(number_in) if row.skips("from") else None
    return word, start, heads_in(row)


def sentence_of(told):
    """The sentence that is made of this."""
    word, start, heads = told
    saying = saying_of(heads)
    return Some(saying, start) if word == "some" else Each(saying, start)


def tree_behind(row):
    """The tree of the region whose text follows to the end of a line, behind its first word."""
    tree = tree_in(row)
    if tree is None:
        raise BadText(row.line, 1)
    return tree


def fifth_in(word):
    """The fifth whose text is this word, None if there is none."""
    fifth = ratio_in(word)
    return fifth if Ratio.is_fifth(fifth) else None


def number_in(word):
    """The integer of at most 40 figures whose text is this word, None if there is none."""
    return integer_in(word, 40)


def name_in(word):
    """This word if it is a name of a promise, else None."""
    return word if is_name(word) else None


def _beginning_in(word):
    """This word if a sentence begins with it, else None."""
    return word if word in ("some", "each") else None


def _head_in(word):
    """This word if a saying begins with it, else None."""
    return word if word in _HEADS else None


def _count_in(word):
    """How many sayings this word tells, None if it cannot stand."""
    number = integer_in(word, 2)
    return number if is_from_to(number, 0, 12) else None


def _term_in(word):
    """The term whose word this is, None if there is none."""
    if word == "n":
        return Moving(0)
    if word.startswith("n+") or word.startswith("n-"):
        number = integer_in(word[2:], 2)
        if not is_from_to(number, 1, 12):
            return None
        return Moving(number) if word[1] == "+" else Moving(-number)
    number = integer_in(word, 2)
    return Note(number) if is_from_to(number, -12, 12) else None


def _height_in(row):
    """The height whose two words follow."""
    tone = row.taken(_near_tone_in)
    return Height(tone, row.taken(_term_in))


def _near_tone_in(word):
    """The tone of a height whose text is this word, None if there is none."""
    tone = tone_in(word)
    return tone if tone is not None and is_near(tone) else None


def _made(word, parts):
    """The saying that begins with this word and has these arguments."""
    if word == "at":
        return At(*parts)
    if word == "below":
        return Below(*parts)
    if word == "between":
        return Between(*parts)
    if word == "higher":
        return Higher(*parts)
    if word == "even":
        return Even(*parts)
    if word == "not":
        return Not(*parts)
    return All(*parts) if word == "all" else Any(*parts)
