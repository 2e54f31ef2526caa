"""Finite sets of positions, kept as pairs."""

from hopkeep.errors import InvalidValue


class Spans:
    """A set of positions; a pair (start, end) covers those from start to end - 1."""

    def __init__(self, pairs=()):
        if any([start < 0 or end < start for start, end in pairs]):
            raise InvalidValue("pairs")
        # Callers may pass pairs in any order, and only ascending ones can be united.
        self._pairs = united(sorted([(start, end) for start, end in pairs if start < end]), 0)

    def pairs(self):
        """The pairs in ascending order."""
        return list(self._pairs)

    def bridged(self, gap):
        """The set with all positions between two pairs, wherever these are at most gap positions."""
        if gap < 0:
            raise InvalidValue("gap")
        return Spans(united(self._pairs, gap))

    @property
    def size(self):
        """The number of positions."""
        return sum([end - start for start, end in self._pairs])

    def __or__(self, other):
        return Spans([*self._pairs, *other._pairs])

    def __and__(self, other):
        return Spans(common(self._pairs, other._pairs))

    def __sub__(self, other):
        if not self._pairs:
            return Spans()
        return Spans(common(self._pairs, uncovered(other._pairs, self._pairs[-1][1])))

    def __contains__(self, position):
        return any([start <= position < end for start, end in self._pairs])

    def __eq__(self, other):
        return isinstance(other, Spans) and self._pairs == other._pairs

    def __len__(self):
        return len(self._pairs)

    def __bool__(self):
        return bool(self._pairs)


def united(pairs, gap):
    """The ascending pairs, joined to one where at most gap positions lie between them."""
    found = []
    for start, end in pairs:
        if found and start - found[-1][1] <= gap:
            found[-1] = (found[-1][0], max(found[-1][1], end))
        else:
            found.append((start, end))
    return found


def common(first, second):
    """The pairs of the positions that lie in both of two ascending lists of pairs."""
    found = []
    i = 0
    j = 0
    while i < len(first) and j < len(second):
        start = max(first[i][0], second[j][0])
        end = min(first[i][1], second[j][1])
        if start < end:
            found.append((start, end))
        if first[i][1] < second[j][1]:
            i += 1
        else:
            j += 1
    return found


def uncovered(pairs, end):
    """The pairs of the positions below end that lie in none of the ascending pairs; some are empty."""
    found = []
    at = 0
    for start, behind in pairs:
        found.append((at, start))
        at = behind
    found.append((at, max(at, end)))
    return found
