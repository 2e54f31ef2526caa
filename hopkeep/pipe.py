"""One reader's end of a stream of requests and a stream of responses."""

from hopkeep.errors import ReaderClosed
from hopkeep.reader import Reader
from hopkeep.writer import write_message


class Pipe:
    """Sends requests and takes their responses, which come in the same order."""

    def __init__(self):
        self._reader = Reader("answers")
        self._requests = []
        self._answered = 0
        self._unasked = None
        self._over = False

    @property
    def waiting(self):
        """The number of requests that wait for a response."""
        return len(self._requests)

    @property
    def fault(self):
        """The pair (kind, index) of the fault, or None."""
        # The reader may find a fault of its own behind the response that stopped the pipe.
        if self._unasked is not None:
            return self._unasked
        return self._reader.fault

    def send(self, request, *, chunks=None, trailer=0):
        """The written form of a request, whose response is now waited for."""
        if self._over:
            raise ReaderClosed()
        text = write_message(request, chunks=chunks, trailer=trailer)
        self._requests.append(request)
        return text

    def take(self, piece):
        """The pairs (request, response) that a piece of the response stream completes."""
        if self._over:
            raise ReaderClosed()
        if self._unasked is not None:
            return []
        return self._paired(self._reader.feed(piece))

    def shut(self):
        """Ends the stream: the pairs that the end completes and the requests left without a response."""
        if self._over:
            raise ReaderClosed()
        self._over = True
        pairs = []
        if self._unasked is None:
            pairs = self._paired(self._reader.finish())
        return (pairs, list(self._requests))

    def _paired(self, responses):
        """Gives each response to the request that waited longest; the first one too many stops the pipe."""
        pairs = []
        for response in responses:
            if not self._requests:
                self._unasked = ("unasked", self._answered)
                return pairs
            pairs.append((self._requests.pop(0), response))
            self._answered += 1
        return pairs
