"""What several tests need."""

import itertools

from hopkeep.messages import Request, Response
from hopkeep.ranges import answer_ranges
from hopkeep.reader import Reader


def caught(kind, call, *args, **settings):
    """The error of this very class that a call raises; None if it raises none."""
    try:
        call(*args, **settings)
    except ValueError as error:
        if type(error) is kind:
            return error
        raise
    return None


def read_in_pieces(side, text, sizes, end=True):
    """All that a reader tells of a stream: messages, stage, fault and completed."""
    reader = Reader(side)
    done = []
    at = 0
    for size in sizes:
        if at >= len(text):
            break
        done += reader.feed(text[at:at + size])
        at += size
    done += reader.feed(text[at:])
    if end:
        done += reader.finish()
    return (done, reader.stage, reader.fault, reader.completed)


def read_by_ones(side, text, end=True):
    return read_in_pieces(side, text, itertools.repeat(1, len(text)), end)


def get(*fields, path="/a"):
    return Request.fetch(path, *fields)


def ok(body, *fields):
    return Response("ok", fields, body)


def part(content, text, *fields):
    """The answer `part` with the ranges of a content that the text asks for."""
    status, more, body = answer_ranges(content, text)
    return Response(status, [*fields, *more], body)


def bring(cache, response, request=None, now=0):
    """Asks, answers the ticket with the response, and returns the step that follows."""
    step = cache.ask(get() if request is None else request, now)
    if step[0] != "up":
        raise AssertionError(step)
    return cache.answer(step[2], response, now)


def bare(message):
    """The status or the start line, the fields and the body of a message."""
    head = message.status if isinstance(message, Response) else message.start
    return (head, message.fields, message.body)
