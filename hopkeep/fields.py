"""The forms of paths, field names, values, lists and numbers."""

LOWER = "abcdefghijklmnopqrstuvwxyz"
DIGITS = "0123456789"
WORD_SIGNS = "abcdefghijklmnopqrstuvwxyz0123456789-"
PATH_SIGNS = "abcdefghijklmnopqrstuvwxyz0123456789/-."
MOST_PATH = 60
MOST_NAME = 30
MOST_VALUE = 200
MOST_DIGITS = 6


def consists_of(text, signs):
    """True if all characters of the text are among the signs."""
    # Stripping stops at the first other character, so it leaves nothing exactly if there is none.
    return text.strip(signs) == ""


def is_plain(text):
    """True if all characters are plain."""
    # 37 is the percent sign, the only printable ASCII character that is not plain.
    return text.isascii() and text.isprintable() and text.translate({37: None}) == text


def is_plain_lines(text):
    """True if all characters are plain or newlines."""
    return is_plain(text.replace("\n", ""))


def is_path(text):
    """True if the text is a path."""
    return 1 <= len(text) <= MOST_PATH and text[0] == "/" and consists_of(text, PATH_SIGNS)


def is_word(text, most):
    """True for a lower-case letter and then letters, digits and hyphens, at most so many characters."""
    return 1 <= len(text) <= most and text[0] in LOWER and consists_of(text, WORD_SIGNS)


def is_field_name(text):
    """True if the text is the name of a field."""
    # The name of the framing line would make a written message ambiguous.
    return is_word(text, MOST_NAME) and text != "length"


def is_value(text):
    """True if the text is allowed as the value of a field."""
    return len(text) <= MOST_VALUE and is_plain(text) and text.strip(" ") == text


def list_elements(text):
    """The elements of a list in a field."""
    parts = [part.strip(" ") for part in text.split(",")]
    return [part for part in parts if part != ""]


def read_number(text):
    """The integer of a digit string, None for another text."""
    if not 1 <= len(text) <= MOST_DIGITS or not consists_of(text, DIGITS):
        return None
    if text[0] == "0" and text != "0":
        return None
    return int(text)


def read_reading(text):
    """The integer of a written reading, None for another text."""
    if not text.startswith("-"):
        return read_number(text)
    number = read_number(text[1:])
    if number is None or number == 0:
        return None
    return -number
