"""The lines of texts, read word by word."""

from anyfifth.errors import BadText


class Row:
    """The words of a line, parted at each space; each one is taken once, from the left."""

    def __init__(self, text, line):
        self.line = line
        self._words = text.split(" ")
        self._at = 0

    def taken(self, found_in):
        """What a function finds in the next word. A word in which it finds None cannot stand."""
        if self._at == len(self._words):
            raise BadText(self.line, self._at)
        found = found_in(self._words[self._at])
        if found is None:
            raise BadText(self.line, self._at)
        self._at = self._at + 1
        return found

    def skips(self, word):
        """Whether the next word is this one, which is taken then."""
        is_next = self._words[self._at:self._at + 1] == [word]
        if is_next:
            self._at = self._at + 1
        return is_next

    def close(self):
        """Refuse a word that has not been taken."""
        if self._at < len(self._words):
            raise BadText(self.line, self._at)
