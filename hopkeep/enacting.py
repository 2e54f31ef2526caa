"""Stories, played on a row of messages."""

from hopkeep.row import Row
from hopkeep.stories import FIRST_TEXT, PLACE, check_story, row_event


def enact(setting, story):
    """A pair (lateness, age) for each ask of a story, None for one whose answer is not ok."""
    check_story(setting, story)
    row = Row(setting, [(PLACE, FIRST_TEXT)])
    for index, event in enumerate(story):
        # The index makes each text one that was never there before.
        row.play(row_event(event, str(index)))
    return [telling_of(entry) for entry in row.log]


def telling_of(entry):
    """The pair (lateness, age) of an entry of a log, None if its answer is not ok."""
    status, age, lateness = entry[3:]
    return (lateness, age) if status == "ok" else None
