"""Reading the messages of a stream that comes in pieces."""

from hopkeep.drafts import CHUNKS, OPEN_END, Draft, read_start
from hopkeep.errors import InvalidMessage, InvalidValue, ReaderClosed
from hopkeep.fields import is_plain_lines, read_number
from hopkeep.messages import Message

MOST_LINE = 300
LINE_STAGES = ("start", "fields", "size", "trailer")


class Reader:
    """Reads the requests or the responses of one stream."""

    def __init__(self, side):
        if side not in ("asks", "answers"):
            raise InvalidValue("side")
        self._side = side
        self._stage = "start"
        self._fault = None
        self._completed = 0
        self._over = False
        self._count = 0
        self._line = ""
        self._draft = None
        self._lacking = 0

    @property
    def stage(self):
        """What the reader expects next."""
        return self._stage

    @property
    def fault(self):
        """The pair (kind, index) of the fault, or None."""
        return self._fault

    @property
    def completed(self):
        """The number of messages completed so far."""
        return self._completed

    def feed(self, piece):
        """Reads the characters of a piece; the list of the messages that they complete."""
        if self._over:
            raise ReaderClosed()
        if self._fault is not None:
            return []
        done = []
        end = allowed_length(piece)
        at = 0
        while at < end and self._fault is None:
            behind = self._read_on(piece, at, end, done)
            self._count += behind - at
            at = behind
        if end < len(piece) and self._fault is None:
            self._stop("character", self._count)
        return done

    def finish(self):
        """Ends the stream; the list of the message that the end completes, if there is one."""
        if self._over:
            raise ReaderClosed()
        self._over = True
        done = []
        if self._fault is not None:
            return done
        if self._stage == "body" and self._draft.framing() == OPEN_END:
            self._complete(done)
        if self._stage == "start" and self._line == "":
            self._stage = "closed"
        else:
            self._stop("cut", self._count)
        return done

    def _read_on(self, piece, at, end, done):
        """Reads some of the characters from at to end; the place up to which it read."""
        if self._stage in LINE_STAGES:
            return self._read_line(piece, at, end, done)
        if self._stage == "end":
            return self._read_chunk_end(piece, at)
        if self._draft.framing() == OPEN_END:
            return self._read_open_end(piece, at, end)
        return self._read_text(piece, at, end, done)

    def _read_line(self, piece, at, end, done):
        first = self._count - len(self._line)
        newline = piece.find("\n", at, end)
        stop = newline if newline >= 0 else end
        line = self._line + piece[at:stop]
        if len(line) > MOST_LINE:
            self._stop("long", first)
            return stop
        if stop == end:
            self._line = line
            return end
        self._line = ""
        kind = self._take_line(line, done)
        if kind is not None:
            self._stop(kind, first)
        return stop + 1

    def _take_line(self, line, done):
        """Takes a whole line; returns the kind of its fault or None."""
        if self._stage == "start":
            return self._take_start(line)
        if self._stage == "size":
            return self._take_size(line)
        if line != "":
            return self._draft.take_field(line)
        if self._stage == "trailer":
            self._complete(done)
        else:
            self._begin_body(done)
        return None

    def _take_start(self, line):
        if line == "":
            return None
        head = read_start(self._side, line)
        if head is None:
            return "start"
        self._draft = Draft(head)
        self._stage = "fields"
        return None

    def _begin_body(self, done):
        framing = self._draft.framing()
        if framing == CHUNKS:
            self._stage = "size"
        elif framing == 0:
            self._complete(done)
        else:
            self._stage = "body"
            self._lacking = Message.MOST_BODY if framing == OPEN_END else framing

    def _take_size(self, line):
        size = read_number(line)
        if size is None:
            return "chunk"
        self._lacking = size
        self._stage = "trailer" if size == 0 else "chunk"
        return self._draft.take_size(size)

    def _read_text(self, piece, at, end, done):
        behind = min(end, at + self._lacking)
        self._draft.add_text(piece[at:behind])
        self._lacking -= behind - at
        if self._lacking == 0:
            if self._stage == "chunk":
                self._stage = "end"
            else:
                self._complete(done)
        return behind

    def _read_chunk_end(self, piece, at):
        if piece[at] != "\n":
            self._stop("chunk", self._count)
            return at
        self._stage = "size"
        return at + 1

    def _read_open_end(self, piece, at, end):
        if end - at > self._lacking:
            # What lacks to the greatest length tells how much of the body was read before.
            self._stop("long", self._count - (Message.MOST_BODY - self._lacking))
            return end
        self._draft.add_text(piece[at:end])
        self._lacking -= end - at
        return end

    def _complete(self, done):
        done.append(self._draft.message())
        self._completed += 1
        self._draft = None
        self._stage = "start"

    def _stop(self, kind, index):
        self._fault = (kind, index)
        self._stage = "broken"
        self._draft = None
        self._line = ""


def allowed_length(piece):
    """How many characters stand before the first one that is neither plain nor a newline."""
    if is_plain_lines(piece):
        return len(piece)
    good = 0
    while is_plain_lines(piece[good]):
        good += 1
    return good


def read_messages(side, text):
    """The messages of a text that is a whole stream."""
    reader = Reader(side)
    messages = reader.feed(text) + reader.finish()
    fault = reader.fault
    if fault is not None:
        raise InvalidMessage(fault[0], fault[1])
    return messages
