"""The errors of the program."""


class HopError(ValueError):
    """The base class of all errors of the program."""


class InvalidValue(HopError):
    """A parameter has a value that is not allowed."""

    def __init__(self, name):
        super().__init__(f"the value of {name} is not allowed")
        self.name = name


class InvalidMessage(HopError):
    """A whole text is no valid stream of messages."""

    def __init__(self, kind, index):
        super().__init__(f"fault {kind} at {index}")
        self.kind = kind
        self.index = index


class InvalidFraming(HopError):
    """A message cannot be written with the framing that is asked for."""

    def __init__(self):
        super().__init__("the message cannot have this framing")


class ReaderClosed(HopError):
    """A stream is used after its end."""

    def __init__(self):
        super().__init__("the stream has ended")


class InvalidMark(HopError):
    """A text is no written mark or no list of marks."""

    def __init__(self, text):
        super().__init__(f"no mark: {text}")
        self.text = text


class InvalidParts(HopError):
    """A response does not hold parts of a content."""

    def __init__(self):
        super().__init__("the parts cannot be read")


class OutOfContent(HopError):
    """A piece lies outside of its content."""

    def __init__(self):
        super().__init__("the piece lies outside of the content")


class Mixed(HopError):
    """Two texts differ at a position that both of them have."""

    def __init__(self, index):
        super().__init__(f"the texts differ at {index}")
        self.index = index


class Incomplete(HopError):
    """Positions that are needed are not kept."""

    def __init__(self, missing):
        super().__init__(f"missing: {missing}")
        self.missing = list(missing)


class NotJoinable(HopError):
    """Two partial contents are not known to be of one version."""

    def __init__(self):
        super().__init__("the two cannot be joined")


class NoLifetime(HopError):
    """A make has no known lifetime for answers of a kind."""

    def __init__(self):
        super().__init__("no lifetime is known")


class NoTicket(HopError):
    """A ticket is not open."""

    def __init__(self, ticket):
        super().__init__(f"no open ticket: {ticket}")
        self.ticket = ticket


class NothingThere(HopError):
    """There is no content at a path."""

    def __init__(self, path):
        super().__init__(f"nothing at {path}")
        self.path = path


class InvalidEvent(HopError):
    """An event is not allowed."""

    def __init__(self, index):
        super().__init__(f"invalid event at {index}")
        self.index = index


class NothingToUndo(HopError):
    """No event can be taken back."""

    def __init__(self):
        super().__init__("nothing to undo")


class NothingToRedo(HopError):
    """No event can be played again."""

    def __init__(self):
        super().__init__("nothing to redo")


class InvalidLine(HopError):
    """A text is no line of a desk."""

    def __init__(self, text):
        super().__init__(f"no line: {text}")
        self.text = text


class NotCalm(HopError):
    """A setting is not calm, not sound, or has a hop without a limit."""

    def __init__(self):
        super().__init__("the setting is not calm")


class InvalidTrace(HopError):
    """An entry of a trace is not of its form."""

    def __init__(self, index):
        super().__init__(f"invalid entry at {index}")
        self.index = index
