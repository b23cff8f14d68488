"""Names, numbers, kinds of answers and their values."""

from askround.errors import NoKind, NoValue

WORDS = (
    "ask", "pick", "some", "count", "if", "else", "end", "part", "leave", "each", "hard", "soft",
    "is", "has", "from", "to", "not", "and", "or", "any", "every",
)
LETTERS = "abcdefghijklmnopqrstuvwxyz"
FIGURES = "0123456789"
LONGEST_NAME = 8
MOST_OPTIONS = 6
TOP_NUMBER = 1000000
MOST_FIGURES = 7


def is_name(thing):
    """Whether a thing is a name."""
    if not isinstance(thing, str) or not 1 <= len(thing) <= LONGEST_NAME or thing in WORDS:
        return False
    return all([sign in LETTERS for sign in thing])


def are_names(thing, least, most):
    """Whether a thing is a tuple of unlike names, from least to most of them."""
    if not isinstance(thing, tuple) or not least <= len(thing) <= most:
        return False
    return all([is_name(name) for name in thing]) and len(set(thing)) == len(thing)


def is_whole(thing):
    """Whether a thing is a whole number, which no truth is."""
    return isinstance(thing, int) and not isinstance(thing, bool)


def is_number(thing):
    """Whether a thing is a number that kinds and conditions may hold."""
    return is_whole(thing) and 0 <= thing <= TOP_NUMBER


def number_in(text):
    """The number that a text is written as, or None."""
    # The length is looked at first: int refuses texts of thousands of figures.
    if not 1 <= len(text) <= MOST_FIGURES or not all([sign in FIGURES for sign in text]):
        return None
    if text[0] == "0" and text != "0":
        return None
    number = int(text)
    return number if number <= TOP_NUMBER else None


def is_kind(thing):
    """Whether a thing is a kind."""
    if not isinstance(thing, tuple) or len(thing) not in (2, 3):
        return False
    if len(thing) == 2:
        return thing[0] in ("pick", "some") and are_names(thing[1], 1, MOST_OPTIONS)
    word, low, high = thing
    return word == "count" and is_number(low) and is_number(high) and low <= high


def check_kind(thing):
    """Refuse what is no kind."""
    if not is_kind(thing):
        raise NoKind("no kind")


def kind_text(kind):
    """The text that a kind is written as."""
    check_kind(kind)
    if kind[0] == "count":
        return f"count {kind[1]} {kind[2]}"
    return " ".join([kind[0], *kind[1]])


def read_kind(text):
    """The kind that is written as this text."""
    if not isinstance(text, str):
        raise NoKind("a kind is read from a text")
    words = text.split(" ")
    if words[0] == "count":
        kind = ("count", *[number_in(word) for word in words[1:]])
    else:
        kind = (words[0], tuple(words[1:]))
    check_kind(kind)
    return kind


def is_value(kind, thing):
    """Whether a thing is a value of this kind."""
    check_kind(kind)
    if kind[0] == "pick":
        return thing in kind[1]
    if kind[0] == "some":
        return isinstance(thing, tuple) and thing == tuple([option for option in kind[1] if option in thing])
    return is_whole(thing) and kind[1] <= thing <= kind[2]


def value_text(kind, value):
    """The text that a value of this kind is written as."""
    if not is_value(kind, value):
        raise NoValue("no value of the kind")
    if kind[0] == "some":
        return "+".join(value) if value else "-"
    return str(value)


def read_value(kind, text):
    """The value of this kind that is written as this text."""
    check_kind(kind)
    value = _value_in(kind[0], text) if isinstance(text, str) else None
    if not is_value(kind, value):
        raise NoValue("no value of the kind is written so")
    return value


def _value_in(word, text):
    """What a text is, read as one for a kind of this word."""
    if word == "pick":
        return text
    if word == "some":
        return () if text == "-" else tuple(text.split("+"))
    return number_in(text)
