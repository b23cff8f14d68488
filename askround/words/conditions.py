"""Conditions on answers."""

from askround.errors import NoCondition
from askround.words.kinds import is_name, is_number, is_whole, number_in

PIECES = ("is", "has", "from", "to")
GROUPS = ("and", "or")
ROUNDS = ("any", "every")
MOST_WITHIN = 6
MOST_PIECES = 30
MOST_TOGETHER = 6


def is_condition(thing):
    """Whether a thing is a condition."""
    return 1 <= _count_pieces(thing, MOST_WITHIN, False) <= MOST_PIECES


def _count_pieces(thing, room, in_round):
    """How many pieces a condition has, at most room within one another; 0 where it is none."""
    # The room bounds the work, too, where one part is handed in over and over.
    if room == 0 or not isinstance(thing, tuple) or len(thing) not in (2, 3):
        return 0
    if len(thing) == 2 and thing[0] == "not":
        return _count_pieces(thing[1], room - 1, in_round)
    if len(thing) == 2 and thing[0] in GROUPS:
        return _count_group(thing[1], room - 1, in_round)
    if len(thing) == 3 and thing[0] in PIECES:
        return 1 if _is_piece(thing) else 0
    if len(thing) == 3 and thing[0] in ROUNDS and not in_round and is_name(thing[1]):
        return _count_pieces(thing[2], room - 1, True)
    return 0


def _count_group(parts, room, in_round):
    """How many pieces the parts of an and, an or have; 0 where they are none."""
    if not isinstance(parts, tuple) or not 2 <= len(parts) <= MOST_TOGETHER:
        return 0
    counts = [_count_pieces(part, room, in_round) for part in parts]
    return sum(counts) if min(counts) > 0 else 0


def _is_piece(thing):
    """Whether a tuple that begins with the word of a piece is one."""
    word, name, wanted = thing
    if word in ("is", "has"):
        return is_name(name) and is_name(wanted)
    return is_name(name) and is_number(wanted)


def check_condition(thing):
    """Refuse what is no condition."""
    if not is_condition(thing):
        raise NoCondition("no condition")


def condition_text(condition):
    """The text that a condition is written as."""
    check_condition(condition)
    return _text_of(condition)


def _text_of(condition):
    """The text of what is known to be a condition."""
    word = condition[0]
    if word == "not":
        return f"not {_text_of(condition[1])}"
    if word in GROUPS:
        inner = f" {word} ".join([_text_of(part) for part in condition[1]])
        return f"( {inner} )"
    if word in ROUNDS:
        return f"{word} {condition[1]} {_text_of(condition[2])}"
    return f"{condition[1]} {word} {condition[2]}"


def read_condition(text):
    """The condition that is written as this text."""
    if not isinstance(text, str):
        raise NoCondition("a condition is read from a text")
    words = text.split(" ")
    condition, behind = _read_at(words, 0, MOST_WITHIN)
    if behind != len(words):
        raise NoCondition("words stand behind the condition")
    check_condition(condition)
    return condition


def _read_at(words, at, room):
    """What is written from a word on, and the place behind it."""
    if room == 0 or at >= len(words):
        raise NoCondition("a condition is missing, or too many stand within one another")
    word = words[at]
    if word == "(":
        return _read_group(words, at + 1, room - 1)
    if word == "not":
        inner, behind = _read_at(words, at + 1, room - 1)
        return ("not", inner), behind
    if word in ROUNDS:
        # What stands behind the name is read first, so that the name is known to be there.
        inner, behind = _read_at(words, at + 2, room - 1)
        return (word, words[at + 1], inner), behind
    return _read_piece(words[at:at + 3]), at + 3


def _read_group(words, at, room):
    """The and, the or whose first part is written from a word on, and the place behind it."""
    part, at = _read_at(words, at, room)
    parts = [part]
    joint = words[at] if at < len(words) else ""
    while at < len(words) and words[at] == joint and joint in GROUPS:
        part, at = _read_at(words, at + 1, room)
        parts.append(part)
    if joint not in GROUPS or at >= len(words) or words[at] != ")":
        raise NoCondition("a bracket holds conditions with and, or with or, between")
    return (joint, tuple(parts)), at + 1


def _read_piece(words):
    """The piece that is written as these words."""
    if len(words) != 3:
        raise NoCondition("a piece has three words")
    name, word, wanted = words
    return (word, name, number_in(wanted) if word in ("from", "to") else wanted)


def pieces_of(condition, over=""):
    """The pieces of what is known to be a condition, each as (piece, the round of its any or every or no name)."""
    if condition[0] == "not":
        return pieces_of(condition[1], over)
    if condition[0] in ROUNDS:
        return pieces_of(condition[2], condition[1])
    if condition[0] not in GROUPS:
        return [(condition, over)]
    pieces = []
    for part in condition[1]:
        pieces.extend(pieces_of(part, over))
    return pieces


def holds(condition, taken, person=0, folk=None):
    """Whether a condition holds by the answers taken, for a person, by how many folk rounds have."""
    check_condition(condition)
    return holds_by(condition, taken, person, {} if folk is None else folk)


def holds_by(condition, taken, person, folk):
    """Whether what is known to be a condition holds."""
    word = condition[0]
    if word == "not":
        return not holds_by(condition[1], taken, person, folk)
    if word in GROUPS:
        found = [holds_by(part, taken, person, folk) for part in condition[1]]
        return all(found) if word == "and" else any(found)
    if word in ROUNDS:
        many = folk.get(condition[1], 0)
        found = [holds_by(condition[2], taken, one, folk) for one in range(1, many + 1)]
        return any(found) if word == "any" else all(found)
    return _piece_holds(condition, taken, person)


def _piece_holds(piece, taken, person):
    """Whether a piece holds by the person's answer or, where none was taken, by that of person 0."""
    word, name, wanted = piece
    for key in ((name, person), (name, 0)):
        if key in taken:
            return fits(word, wanted, taken[key])
    return False


def fits(word, wanted, answer):
    """Whether an answer, perhaps of another kind, is, has or reaches what is wanted."""
    if word == "is":
        return answer == wanted
    if word == "has":
        return isinstance(answer, tuple) and wanted in answer
    if not is_whole(answer):
        return False
    return answer >= wanted if word == "from" else answer <= wanted
