"""The links between the caches of a row."""

from hopkeep.reader import Reader, read_messages
from hopkeep.writer import write_message


class Link:
    """The link that leads to a hop from the next one, with the orders that wait there."""

    def __init__(self):
        self.delay = 0
        self._loses_up = False
        self._loses_back = False
        self._clipped_to = None

    def lose(self, way):
        """The next message on this way will be lost."""
        if way == "up":
            self._loses_up = True
        else:
            self._loses_back = True

    def clip(self, count):
        """The next response will be cut off after so many characters."""
        self._clipped_to = count

    def carry_up(self, request):
        """A request as it arrives at the next hop, None if it is lost."""
        if self._loses_up:
            self._loses_up = False
            return None
        return read_messages("asks", write_message(request))[0]

    def carry_back(self, response):
        """A response as it arrives at the hop, None if it is lost."""
        if self._loses_back:
            self._loses_back = False
            return None
        text = write_message(response)
        if self._clipped_to is not None:
            text = text[:self._clipped_to]
            self._clipped_to = None
        found = Reader("answers").feed(text)
        return found[0] if found else None
