"""The texts of sayings, sentences and books."""

from anyfifth.errors import BadSaying
from anyfifth.plain import written
from anyfifth.sayings import Joined, Levelled, Not, Saying
from anyfifth.sentences import Sentence, Some


def saying_text(saying):
    """The text of a saying."""
    if not isinstance(saying, Saying):
        raise BadSaying("saying")
    return " ".join(_saying_words(saying))


def sentence_text(sentence):
    """The text of a sentence."""
    if not isinstance(sentence, Sentence):
        raise BadSaying("sentence")
    words = ["some" if isinstance(sentence, Some) else "each"]
    if sentence.start is not None:
        words = words + ["from", written(sentence.start)]
    return " ".join(words + _saying_words(sentence.saying))


def book_text(book):
    """The text of a book: a line for its region, and one for each promise."""
    lines = [f"where {book.where}"]
    for name in book.names:
        lines.append(f"promise {name} {sentence_text(book[name])}")
    return "\n".join(lines)


def _saying_words(saying):
    """The words of a saying."""
    words = []
    waiting = [saying]
    while waiting:
        one = waiting.pop()
        words.append(one.WORD)
        if isinstance(one, Joined):
            if not isinstance(one, Not):
                words.append(str(len(one.sayings)))
            waiting.extend(one.given()[::-1])
        elif isinstance(one, Levelled):
            for height in one.given():
                words.extend([str(height.tone), _term_word(height.term)])
        else:
            words.extend([_term_word(term) for term in one.given()])
    return words


def _term_word(term):
    """The word of a term."""
    if not term.is_moving:
        return str(term.number)
    if term.number == 0:
        return "n"
    return f"n{term.number:+d}"
