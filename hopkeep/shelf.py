"""The kept answers of one cache."""

from hopkeep.keys import key_of


class Shelf:
    """Kept answers by their numbers, in the order of storing."""

    def __init__(self, room):
        self.answers = {}
        self._room = room
        self._numbers = 0
        self._uses = 0

    def select(self, request):
        """The kept answer for a request, None if there is none."""
        found = None
        for kept in self.answers.values():
            if kept.path == request.path and kept.key == key_of(kept.names, request):
                found = kept
        return found

    def still(self, number):
        """The kept answer that has had this number since it was stored, None if it is not kept any more."""
        return self.answers.get(number)

    def store(self, answer):
        """Keeps an answer instead of the one with the same path, names and key."""
        old = self._in_place_of(answer)
        if old is not None:
            del self.answers[old.number]
        self._numbers += 1
        answer.number = self._numbers
        self._put_last(answer)
        if len(self.answers) > self._room:
            unused = min(list(self.answers.values()), key=lambda kept: kept.last_use)
            del self.answers[unused.number]

    def store_part(self, answer, response, now):
        """Keeps an answer with parts; returns the kept answer in which it is stored."""
        old = self._in_place_of(answer)
        if old is None or not old.takes_content(answer):
            self.store(answer)
            return answer
        self.refresh(old, response, now)
        return old

    def refresh(self, kept, response, now):
        """Refreshes a kept answer by a response."""
        kept.refresh(response, now)
        del self.answers[kept.number]
        self._put_last(kept)

    def note_use(self, answer):
        """Notes that an answer was used; it need not be kept."""
        self._uses += 1
        answer.last_use = self._uses

    def drop(self, path):
        """Drops the answers with a path; returns how many there were."""
        numbers = [kept.number for kept in self.answers.values() if kept.path == path]
        for number in numbers:
            del self.answers[number]
        return len(numbers)

    def empty(self):
        """Drops all answers."""
        self.answers = {}

    def _put_last(self, answer):
        self.answers[answer.number] = answer
        self.note_use(answer)

    def _in_place_of(self, answer):
        """The kept answer with the same path, names and key, None if there is none."""
        for kept in self.answers.values():
            if (kept.path, kept.names, kept.key) == (answer.path, answer.names, answer.key):
                return kept
        return None
