"""Traces: what somebody sees who hears some answers of a row and knows when its content changes."""

from hopkeep.calmrow import calm_rows
from hopkeep.errors import InvalidEvent, InvalidTrace
from hopkeep.events import is_number

MOST_TRACE_WAIT = 1000


def judge_trace(setting, trace):
    """("right", story) with a story that gives the trace, or ("wrong", index, sets) if there is none."""
    row = calm_rows(setting)[0]
    check_trace(row, trace)
    # For each set its states, and for each state the set, the state and the event from which it was reached.
    sets = [closed(row, {row.nothing: None}, 0)]
    for index, entry in enumerate(trace):
        after = states_after(row, sets[index], entry, index)
        if not after:
            return ("wrong", index, [list(states) for states in sets])
        sets.append(closed(row, after, index + 1))
    return ("right", story_to(sets))


def states_after(row, states, entry, index):
    """The states behind an entry, for the states in front of it, which are in the set with this index."""
    found = {}
    event = event_of(entry)
    for state in states:
        after, telling = row.step(state, event)
        if entry[0] != "told" or telling == entry[2:]:
            found.setdefault(after, (index, state, event))
    return found


def event_of(entry):
    """The event that an entry tells of."""
    return ("ask", entry[1], None) if entry[0] == "told" else entry


def silent_steps(row, state):
    """For each event that nobody may notice the event and the state behind it."""
    asks = [(("ask", hop, None), row.ask(state, hop)[0]) for hop in row.numbers]
    return asks + [(("stop", hop), row.stop(state, hop)) for hop in row.numbers]


def closed(row, states, index):
    """The states with those to which events lead that nobody may notice."""
    found = {state: states[state] for state in states}
    waiting = list(found)
    while waiting:
        state = waiting.pop()
        for event, after in silent_steps(row, state):
            if after not in found:
                found[after] = (index, state, event)
                waiting.append(after)
    return found


def story_to(sets):
    """The events that lead to a state of the last set."""
    story = []
    step = list(sets[-1].values())[0]
    while step is not None:
        index, state, event = step
        story.append(event)
        step = sets[index][state]
    return story[::-1]


def check_trace(row, trace):
    """Raises InvalidTrace for the first entry that has no form of an entry or a hop that there is not."""
    for index, entry in enumerate(trace):
        if not is_trace_entry(row, entry):
            raise InvalidTrace(index)


def is_trace_entry(row, entry):
    """True if the value is an entry of a trace of the row; it may be of any kind."""
    if not isinstance(entry, tuple) or len(entry) == 0:
        return False
    if entry[0] != "told":
        return row.allows(entry) and is_heard(entry)
    return len(entry) == 4 and all([is_number(item) and item >= 0 for item in entry[1:]]) and entry[1] in row.numbers


def is_heard(event):
    """True if an event that is no ask may stand in a trace as it is."""
    return event[0] == "change" or (event[0] == "wait" and event[1] <= MOST_TRACE_WAIT)


def is_trace_answer(setting, trace, answer):
    """True if an answer shows whether a trace is right; it may be of any kind."""
    row = calm_rows(setting)[0]
    check_trace(row, trace)
    if not isinstance(answer, tuple) or len(answer) == 0:
        return False
    if answer[0] == "right":
        return len(answer) == 2 and is_story_of(row, trace, answer[1])
    return answer[0] == "wrong" and len(answer) == 3 and are_sets(row, trace, answer[1], answer[2])


def is_story_of(row, trace, story):
    """True if a story gives the trace."""
    if not isinstance(story, list) or not all([row.allows(event) for event in story]):
        return False
    state = row.nothing
    heard = 0
    for event in story:
        state, telling = row.step(state, event)
        expected = trace[heard] if heard < len(trace) else None
        # Whoever hears each ask as early as possible never misses one later.
        if entry_of(event, telling) == expected:
            heard += 1
        elif event[0] in ("wait", "change"):
            return False
    return heard == len(trace)


def entry_of(event, telling):
    """The entry of a trace for an event that is heard; that of a stop stands in no trace."""
    return event if telling is None else ("told", event[1], *telling)


def are_sets(row, trace, index, sets):
    """True if the sets show that the entry at the index cannot be told."""
    if not is_number(index) or not 0 <= index < len(trace) or trace[index][0] != "told":
        return False
    if not isinstance(sets, list) or len(sets) != index + 1 or not all([is_set(row, states) for states in sets]):
        return False
    needed = {row.nothing: None}
    for number, states in enumerate(sets):
        known = {state: True for state in states}
        if not all([state in known for state in needed]):
            return False
        for state in known:
            if not all([after in known for _, after in silent_steps(row, state)]):
                return False
        needed = states_after(row, known, trace[number], number)
    return not needed


def is_set(row, value):
    """True if the value is a list of states."""
    return isinstance(value, list) and all([row.is_state(state) for state in value])


def seen(setting, story, hop):
    """The trace of a calm story for somebody who hears the asks at one hop."""
    row = calm_rows(setting)[0]
    for index, event in enumerate(story):
        if not row.allows(event) or (event[0] == "wait" and event[1] > MOST_TRACE_WAIT):
            raise InvalidEvent(index)
    trace = []
    state = row.nothing
    for event in story:
        state, telling = row.step(state, event)
        if event[0] in ("wait", "change") or (event[0] == "ask" and event[1] == hop):
            trace.append(entry_of(event, telling))
    return trace
