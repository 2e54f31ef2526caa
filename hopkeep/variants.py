"""Variants of a content and the preferences of requests."""

from hopkeep.errors import InvalidValue
from hopkeep.fields import is_word, list_elements, read_number
from hopkeep.messages import is_body

WANT_FIELDS = ("want-form", "want-tongue", "want-coding")
MOST_WORD = 20
MOST_WEIGHT = 1000
MOST_QUALITY = 1000


class Variant:
    """A form of a content, with a word on each axis."""

    def __init__(self, form, tongue, coding, content, *, weight=1000):
        for name, word in (("form", form), ("tongue", tongue), ("coding", coding)):
            if not is_word(word, MOST_WORD):
                raise InvalidValue(name)
        if not is_body(content):
            raise InvalidValue("content")
        if not 1 <= weight <= MOST_WEIGHT:
            raise InvalidValue("weight")
        self.form = form
        self.tongue = tongue
        self.coding = coding
        self.content = content
        self.weight = weight


def read_preferences(text):
    """The pairs (word, quality) of a field, each word once; none if there is no field."""
    if text is None:
        return []
    found = {}
    for part in list_elements(text):
        pair = read_preference(part)
        if pair is not None:
            found.setdefault(pair[0], pair[1])
    return list(found.items())


def read_preference(part):
    """The pair (word, quality) of one element, None if it has another form."""
    word, sign, number = part.partition(";")
    worth = MOST_QUALITY if sign == "" else read_number(number)
    if worth is None or worth > MOST_QUALITY:
        return None
    if word != "*" and not is_word(word, MOST_WORD):
        return None
    return (word, worth)


def quality(preferences, word):
    """The quality of a variant's word."""
    if not preferences:
        return MOST_QUALITY
    ranked = [(covering_rank(own, word), worth) for own, worth in preferences]
    rank, worth = max(ranked, key=lambda pair: pair[0])
    return 0 if rank < 0 else worth


def covering_rank(own, word):
    """How much a preference counts for a word: its length, 0 for the star, -1 if it does not cover the word."""
    if own == "*":
        return 0
    if own == word or word.startswith(own + "-"):
        return len(own)
    return -1


def choose(variants, request):
    """The index of the variant with the greatest score, None if none has a score above 0."""
    scores = scores_of(variants, request)
    best = max(scores, default=0)
    return scores.index(best) if best > 0 else None


def ranking(variants, request):
    """The indexes of the variants with a score above 0, the greatest score first."""
    scores = scores_of(variants, request)
    # Equal scores stay in their order, since sorting moves only what differs in its key.
    for index in sorted(range(len(scores)), key=lambda at: -scores[at]):
        if scores[index] > 0:
            yield index


def scores_of(variants, request):
    """The scores of the variants for a request."""
    forms, tongues, codings = [read_preferences(request.joined(name)) for name in WANT_FIELDS]
    return [one.weight * quality(forms, one.form) * quality(tongues, one.tongue) * quality(codings, one.coding)
            for one in variants]
