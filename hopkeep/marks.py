"""Marks, which name versions of a content, and lists of marks."""

from hopkeep.errors import InvalidMark, InvalidValue
from hopkeep.fields import consists_of, list_elements

MARK_SIGNS = "abcdefghijklmnopqrstuvwxyz0123456789-."
MOST_MARK = 40


class Mark:
    """The name of a version."""

    def __init__(self, text, weak=False):
        if not is_mark_text(text):
            raise InvalidValue("text")
        self.text = text
        self.weak = weak

    @staticmethod
    def read(text):
        """The mark with this written form."""
        mark = read_mark(text)
        if mark is None:
            raise InvalidMark(text)
        return mark

    def strongly(self, other):
        """True if both marks are strong and their texts are equal."""
        return not self.weak and not other.weak and self.text == other.text

    def weakly(self, other):
        """True if the texts are equal."""
        return self.text == other.text

    def __eq__(self, other):
        return isinstance(other, Mark) and self.text == other.text and self.weak == other.weak

    def __str__(self):
        if self.weak:
            return f'w"{self.text}"'
        return f'"{self.text}"'


class MarkList:
    """Marks in their order, or the star, which stands for every mark."""

    def __init__(self, marks, star=False):
        if star and len(marks) > 0:
            raise InvalidValue("star")
        self.marks = list(marks)
        self.star = star

    @staticmethod
    def read(text):
        """The list with this written form."""
        parts = list_elements(text)
        if parts == ["*"]:
            return MarkList([], True)
        marks = [read_mark(part) for part in parts]
        if not marks or any([mark is None for mark in marks]):
            raise InvalidMark(text)
        return MarkList(marks)

    def strongly(self, mark):
        """True if a mark of the list matches this one strongly."""
        if self.star:
            return True
        return mark is not None and any([own.strongly(mark) for own in self.marks])

    def weakly(self, mark):
        """True if a mark of the list matches this one weakly."""
        if self.star:
            return True
        return mark is not None and any([own.weakly(mark) for own in self.marks])

    def __add__(self, other):
        if self.star or other.star:
            return MarkList([], True)
        found = {}
        for mark in [*self.marks, *other.marks]:
            # The written forms of two marks are equal exactly if the marks are.
            if str(mark) not in found:
                found[str(mark)] = mark
        return MarkList(list(found.values()))

    def __len__(self):
        return len(self.marks)


def is_mark_text(text):
    """True if the text is allowed as the text of a mark."""
    return 1 <= len(text) <= MOST_MARK and consists_of(text, MARK_SIGNS)


def read_mark(text):
    """The mark with this written form, None for another text."""
    weak = text.startswith("w")
    quoted = text[1:] if weak else text
    inner = quoted[1:-1]
    if quoted != f'"{inner}"' or not is_mark_text(inner):
        return None
    return Mark(inner, weak)


def settled(changed, date, margin):
    """True if a change lies so far behind that its reading tells versions apart."""
    return changed is not None and date is not None and date - changed >= margin
