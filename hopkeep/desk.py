"""A desk, on which events are played, taken back and played again."""

from hopkeep.errors import InvalidEvent, InvalidLine, InvalidValue, NothingToRedo, NothingToUndo
from hopkeep.lines import read_line
from hopkeep.row import Row


class Desk:
    """Plays events on a row, with undo."""

    def __init__(self, setting, pages):
        self._row = Row(setting, pages)
        self._setting = setting
        # The row is set up anew after an undo, whatever became of the caller's lists.
        self._pages = [(path, content if isinstance(content, str) else list(content)) for path, content in pages]
        self._done = []
        self._undone = []
        self._most_late = None

    @property
    def row(self):
        """The row at present."""
        return self._row

    @property
    def let_late(self):
        """The greatest lateness that the desk lets; None means any."""
        return self._most_late

    @let_late.setter
    def let_late(self, ticks):
        self.let(ticks)

    @property
    def first_late(self):
        """The index of the first entry of the log that is later than the desk lets, None if there is none."""
        if self._most_late is None:
            return None
        for index, entry in enumerate(self._row.log):
            if entry[5] is not None and entry[5] > self._most_late:
                return index
        return None

    def let(self, ticks):
        """Lets answers be told so late from now on."""
        if ticks is not None and ticks < 0:
            raise InvalidValue("let_late")
        self._most_late = ticks

    def do(self, event):
        """Plays an event and returns its result; nothing can be redone afterwards."""
        result = self._row.play(event)
        self._done.append(event)
        self._undone = []
        return result

    def undo(self):
        """Takes the last event back and returns it."""
        if not self._done:
            raise NothingToUndo()
        event = self._done.pop()
        self._undone.append(event)
        self._row = self._played_anew()
        return event

    def redo(self):
        """Plays the event that was taken back last again and returns it."""
        if not self._undone:
            raise NothingToRedo()
        event = self._undone.pop()
        self._row.play(event)
        self._done.append(event)
        return event

    def run(self, events):
        """Does all of the events, or none of them if one is invalid; the list of their results."""
        # Whether an event is valid may depend on those before it, so they are tried on a second row.
        trial = self._played_anew()
        for index, event in enumerate(events):
            try:
                trial.play(event)
            except InvalidEvent:
                raise InvalidEvent(index)
        return [self.do(event) for event in events]

    def history(self):
        """The events that are in force."""
        return list(self._done)

    def line(self, text):
        """Carries out a line."""
        if text == "undo":
            return self.undo()
        if text == "redo":
            return self.redo()
        event = read_line(text)
        if event is None:
            raise InvalidLine(text)
        return self.do(event)

    def table(self):
        """A line for each entry of the log."""
        return [line_of(entry) for entry in self._row.log]

    def told(self, *hops):
        """The entries of the log for these hops, for all hops if none is given."""
        return [entry for entry in self._row.log if not hops or entry[1] in hops]

    def _played_anew(self):
        """Another row on which the events in force were played."""
        row = Row(self._setting, self._pages)
        for event in self._done:
            row.play(event)
        return row


def line_of(entry):
    """An entry of the log as a line of a table."""
    time, hop, _, status, age, lateness = entry
    late = "-" if lateness is None else str(lateness)
    return f"{time:>6}{hop:>6}{age:>6}{status:<8}{late:>6}"
