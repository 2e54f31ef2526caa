"""The written form of messages, and the pieces of a text."""

from hopkeep.errors import InvalidFraming, InvalidValue
from hopkeep.messages import Request


def write_message(message, *, chunks=None, trailer=0, open_end=False):
    """The message as it is written on a stream."""
    if not is_framing(message, chunks, trailer, open_end):
        raise InvalidFraming()
    if chunks is not None:
        return write_chunked(message, chunks, trailer)
    lines = [message.start] + field_lines(message.fields)
    if message.may_have_body and not open_end:
        lines.append(f"length: {len(message.body)}")
    return "\n".join([*lines, "", message.body])


def is_framing(message, chunks, trailer, open_end):
    """True if the message can be written with these options."""
    if open_end and (chunks is not None or isinstance(message, Request)):
        return False
    if chunks is None:
        return trailer == 0 and (message.may_have_body or not open_end)
    if not message.may_have_body or any([size < 1 for size in chunks]):
        return False
    return 0 <= trailer <= len(message.fields)


def write_chunked(message, sizes, trailer):
    """The message with its body in chunks and its last fields behind them."""
    early = len(message.fields) - trailer
    lines = [message.start] + field_lines(message.fields[:early]) + ["length: chunks", ""]
    for chunk in chunk_texts(message.body, sizes):
        lines.extend([str(len(chunk)), chunk])
    lines.append("0")
    lines.extend(field_lines(message.fields[early:]))
    return "\n".join([*lines, "", ""])


def field_lines(fields):
    """The lines of the fields without their newlines."""
    return [f"{name}: {value}" for name, value in fields]


def chunk_texts(body, sizes):
    """The chunks of a body, none of them empty."""
    found = []
    at = 0
    # The length of the body, as a last size, takes whatever the sizes leave.
    for size in [*sizes, len(body)]:
        if at < len(body):
            found.append(body[at:at + size])
            at += size
    return found


def cut(text, sizes):
    """The pieces of a text of these sizes, and then the rest of it."""
    # The caller may change the list between two pieces.
    sizes = list(sizes)
    if any([size < 0 for size in sizes]):
        raise InvalidValue("sizes")
    at = 0
    for size in sizes:
        yield text[at:at + size]
        at += size
    yield text[at:]
