"""Ranges of a content: how they are asked for, answered and read."""

from hopkeep.errors import InvalidParts, InvalidValue
from hopkeep.fields import list_elements, read_number
from hopkeep.spans import Spans

MOST_RANGES = 20


def read_ranges(text):
    """The ranges of a range field as pairs, None if the text has another form."""
    found = [read_range(part) for part in list_elements(text)]
    if not 1 <= len(found) <= MOST_RANGES or any([pair is None for pair in found]):
        return None
    return found


def read_range(text):
    """One range as (A, B), (A, None) or (None, N), None if the text has another form."""
    before, dash, after = text.partition("-")
    first = read_number(before)
    last = read_number(after)
    # What is not a number may only be left out.
    if dash == "" or (first is None and before != "") or (last is None and after != ""):
        return None
    if first is None and last is None:
        return None
    if first is not None and last is not None and last < first:
        return None
    return (first, last)


def resolve(ranges, length):
    """The pairs (start, end) of the ranges that contain a position of a content of this length."""
    pairs = [resolve_range(first, last, length) for first, last in ranges]
    return [pair for pair in pairs if pair[0] < pair[1]]


def resolve_range(first, last, length):
    """The pair (start, end) of one range, with start not below end if it contains no position."""
    if first is None:
        return (max(0, length - last), length)
    if last is None:
        return (first, length)
    return (first, min(last + 1, length))


def answer_ranges(content, text, *, gap=0):
    """The status, the fields and the body that answer a range field for a content."""
    if gap < 0:
        raise InvalidValue("gap")
    wanted = read_ranges(text)
    length = len(content)
    if wanted is None:
        return ("ok", [], content)
    pairs = Spans(resolve(wanted, length)).bridged(gap).pairs()
    if not pairs:
        return ("norange", [("part", f"*/{length}")], "")
    if len(pairs) == 1:
        start, end = pairs[0]
        return ("part", [("part", write_extent(start, end, length))], content[start:end])
    blocks = [f"part {write_extent(start, end, length)}\n{content[start:end]}\n" for start, end in pairs]
    return ("part", [("parts", str(len(pairs)))], "".join(blocks))


def write_extent(start, end, length):
    """How the place of a part in its content is written."""
    return f"{start}-{end - 1}/{length}"


def read_extent(text):
    """The triple (start, end, length) of a written place, None for another text."""
    places, _, length = text.partition("/")
    first, _, last = places.partition("-")
    numbers = [read_number(part) for part in (first, last, length)]
    if any([number is None for number in numbers]) or not numbers[0] <= numbers[1] < numbers[2]:
        return None
    return (numbers[0], numbers[1] + 1, numbers[2])


def read_parts(response):
    """The length of the content and the pieces (start, text) that a response holds."""
    single = response.all_values("part")
    several = response.all_values("parts")
    if len(single) + len(several) != 1:
        raise InvalidParts()
    if single:
        return read_single(single[0], response.body)
    length, pieces = read_blocks(response.body)
    if len(pieces) < 2 or read_number(several[0]) != len(pieces):
        raise InvalidParts()
    return (length, pieces)


def read_single(text, body):
    """The length and the one piece of a body that is a single part."""
    extent = read_extent(text)
    if extent is None or len(body) != extent[1] - extent[0]:
        raise InvalidParts()
    return (extent[2], [(extent[0], body)])


def read_blocks(body):
    """The length and the pieces of a body that consists of blocks."""
    pieces = []
    length = None
    least = 0
    at = 0
    while at < len(body):
        start, end, own, text_at = read_block_line(body, at)
        at = text_at + end - start
        # Where the body ends too early, this is the empty text.
        closing = body[at:at + 1]
        if closing != "\n" or start < least or length not in (None, own):
            raise InvalidParts()
        pieces.append((start, body[text_at:at]))
        length = own
        least = end
        at += 1
    return (length, pieces)


def read_block_line(body, at):
    """The start, the end and the length that a block's line tells, and where its characters begin."""
    stop = body.find("\n", at)
    if stop < 0 or not body.startswith("part ", at):
        raise InvalidParts()
    extent = read_extent(body[at + len("part "):stop])
    if extent is None:
        raise InvalidParts()
    return (extent[0], extent[1], extent[2], stop + 1)


def cheapest_ranges(missing, cost):
    """The cheapest spans with all missing positions, if each pair costs as much as so many positions."""
    if cost < 0:
        raise InvalidValue("cost")
    # A gap is worth bridging only if it has fewer positions than a further pair costs.
    return missing.bridged(max(cost - 1, 0))


def write_ranges(spans):
    """The value of a range field that asks for these positions."""
    return ", ".join([f"{start}-{end - 1}" for start, end in spans.pairs()])
