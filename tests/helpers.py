"""What several tests need."""

import itertools

from hopkeep.reader import Reader


def caught(kind, call, *args, **settings):
    """The error of this very class that a call raises; None if it raises none."""
    try:
        call(*args, **settings)
    except ValueError as error:
        if type(error) is kind:
            return error
        raise
    return None


def read_in_pieces(side, text, sizes, end=True):
    """All that a reader tells of a stream: messages, stage, fault and completed."""
    reader = Reader(side)
    done = []
    at = 0
    for size in sizes:
        if at >= len(text):
            break
        done += reader.feed(text[at:at + size])
        at += size
    done += reader.feed(text[at:])
    if end:
        done += reader.finish()
    return (done, reader.stage, reader.fault, reader.completed)


def read_by_ones(side, text, end=True):
    return read_in_pieces(side, text, itertools.repeat(1, len(text)), end)
