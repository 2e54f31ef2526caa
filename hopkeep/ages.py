"""The ages of answers."""

from hopkeep.fields import read_number


def told_age(message):
    """The age that an answer tells, 0 if it tells none."""
    text = message.joined("age")
    number = None if text is None else read_number(text)
    return 0 if number is None else number


def current_age(initial, arrived, now):
    """The age of an answer that arrived with an initial age."""
    # A clock may go back; an answer never gets younger by that.
    return initial + max(0, now - arrived)
