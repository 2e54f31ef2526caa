"""How a get is answered from a content, by an origin or a cache."""

from hopkeep.conditions import Conditions
from hopkeep.ranges import answer_ranges, read_ranges, resolve
from hopkeep.spans import Spans


def wanted_ranges(request, current):
    """The ranges of a get that apply to what is there, None if it wants the whole content."""
    text = request.joined("range")
    if text is None or not Conditions.of(request).takes_part(current):
        return None
    return read_ranges(text)


def wanted_positions(request, current, length):
    """The positions of a content of this length that a get wants."""
    ranges = wanted_ranges(request, current)
    if ranges is None:
        return Spans([(0, length)])
    return Spans(resolve(ranges, length))


def tell_content(request, current, content):
    """The status, the fields of the ranges and the body with which a content answers a get."""
    conditions = Conditions.of(request)
    verdict = conditions(current)
    if verdict != "go":
        return (verdict, [], "")
    if wanted_ranges(request, current) is None:
        return ("ok", [], content)
    return answer_ranges(content, request.joined("range"))
