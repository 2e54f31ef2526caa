"""Contents of which only some parts are kept."""

from hopkeep.errors import Incomplete, InvalidValue, Mixed, NotJoinable, OutOfContent
from hopkeep.spans import Spans


class Partial:
    """Parts of one version of a content."""

    def __init__(self, mark, length):
        if length < 0:
            raise InvalidValue("length")
        self.mark = mark
        self.length = length
        # Ascending pairs (start, text), of which no two touch and no text is empty.
        self._pieces = []

    def put(self, start, text):
        """Keeps a piece."""
        if start < 0 or start + len(text) > self.length:
            raise OutOfContent()
        index = first_difference(self._pieces, start, text)
        if index is not None:
            raise Mixed(index)
        if text != "":
            self._pieces = with_piece(self._pieces, start, text)

    def have(self):
        """The positions that are kept."""
        return Spans([(start, start + len(text)) for start, text in self._pieces])

    def lacking(self):
        """The positions that are not kept."""
        return Spans([(0, self.length)]) - self.have()

    @property
    def whole(self):
        """True if nothing is missing."""
        return sum([len(text) for _, text in self._pieces]) == self.length

    def whole_text(self):
        """The content."""
        return self.stretch(0, self.length)

    def stretch(self, start, end):
        """The characters from start to end - 1."""
        if not 0 <= start <= end <= self.length:
            raise OutOfContent()
        missing = self.lacking() & Spans([(start, end)])
        if missing:
            raise Incomplete(missing.pairs())
        # Pieces do not touch, so one of them has all the characters, if there are any.
        for own, text in self._pieces:
            if own <= start and end <= own + len(text):
                return text[start - own:end - own]
        return ""

    def copy(self):
        """A copy that does not change with this one."""
        twin = Partial(self.mark, self.length)
        twin._pieces = list(self._pieces)
        return twin

    def join(self, other):
        """Adds the pieces of another Partial of the same version."""
        if not are_joinable(self, other):
            raise NotJoinable()
        # The other one may be this one.
        pieces = list(other._pieces)
        for start, text in pieces:
            index = first_difference(self._pieces, start, text)
            if index is not None:
                raise Mixed(index)
        for start, text in pieces:
            self._pieces = with_piece(self._pieces, start, text)

    def joined(self, other):
        """A new Partial with the pieces of both."""
        found = self.copy()
        found.join(other)
        return found


def are_joinable(first, second):
    """True if two Partials surely are of one version."""
    if first.mark is None or second.mark is None or first.length != second.length:
        return False
    return first.mark.strongly(second.mark)


def first_difference(pieces, start, text):
    """The least position at which ascending pieces have another character than a text, None without one."""
    for own_start, own in pieces:
        low = max(start, own_start)
        high = min(start + len(text), own_start + len(own))
        if low < high:
            kept = own[low - own_start:high - own_start]
            new = text[low - start:high - start]
            if kept != new:
                return low + [a == b for a, b in zip(kept, new)].index(False)
    return None


def with_piece(pieces, start, text):
    """The pieces with one more, which is united with those that it overlaps or touches."""
    end = start + len(text)
    before = [piece for piece in pieces if piece[0] + len(piece[1]) < start]
    after = [piece for piece in pieces if piece[0] > end]
    near = pieces[len(before):len(pieces) - len(after)]
    if not near:
        return [*before, (start, text), *after]
    first_start, first = near[0]
    last_start, last = near[-1]
    # Only the first one may begin before the text, and only the last one may go on behind it.
    head = first[:max(0, start - first_start)]
    tail = last[end - last_start:]
    return [*before, (start - len(head), head + text + tail), *after]
