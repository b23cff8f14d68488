"""Forms as trees of steps."""

from askround.errors import NoForm
from askround.forms.growth import Growth
from askround.words.keys import check_key

LENGTHS = {"ask": 3, "if": 4, "part": 3, "leave": 3, "each": 4, "hard": 2, "soft": 2}


def is_form(thing):
    """Whether a thing is a form."""
    return _can_grow(Growth(), thing)


def _can_grow(growth, steps):
    """Whether steps can stand behind the rows so far, which they are added to."""
    if not isinstance(steps, tuple):
        return False
    for step in steps:
        if not _has_shape(step) or not growth.grow(head_of(step)) or not _inner_grow(growth, step):
            return False
    return True


def _has_shape(step):
    """Whether a thing has the word and the length of a step."""
    if not isinstance(step, tuple) or len(step) < 2 or not isinstance(step[0], str):
        return False
    return LENGTHS.get(step[0], 0) == len(step)


def _inner_grow(growth, step):
    """Whether the steps in a step whose own row stands can stand, too."""
    if step[0] not in ("if", "part", "each"):
        return True
    if step[0] != "if":
        return _can_grow(growth, step[-1]) and growth.grow(("end",))
    if not _can_grow(growth, step[2]):
        return False
    if step[3] != ():
        return growth.grow(("else",)) and _can_grow(growth, step[3]) and growth.grow(("end",))
    return growth.grow(("end",))


def head_of(step):
    """A step without the steps in it."""
    if step[0] == "if":
        return step[:2]
    if step[0] in ("part", "each"):
        return step[:-1]
    return step


def steps_in(step):
    """The tuples of steps that stand in a step."""
    if step[0] == "if":
        return step[2:]
    if step[0] in ("part", "each"):
        return step[-1:]
    return ()


def check_form(thing):
    """Refuse what is no form."""
    if not is_form(thing):
        raise NoForm(-1)


def rows_of(steps, home=""):
    """All steps in the order of rows, each as (step, its round or no name)."""
    rows = []
    for step in steps:
        rows.append((step, home))
        for inner in steps_in(step):
            rows.extend(rows_of(inner, step[1] if step[0] == "each" else home))
    return rows


def asks_of(form):
    """The asks of a form in order, each as (name, kind, its round or no name)."""
    check_form(form)
    return tuple([(step[1], step[2], home) for step, home in rows_of(form) if step[0] == "ask"])


def questions_of(form):
    """A dict from the rounds of what is known to be a form to their questions."""
    return {step[1]: step[2] for step, _ in rows_of(form) if step[0] == "each"}


def homes_of(form):
    """A dict from the asks of what is known to be a form to their rounds or no name."""
    return {step[1]: home for step, home in rows_of(form) if step[0] == "ask"}


def persons_of(home, questions, kinds):
    """The persons for whom what stands in a round, or in none, can be come to."""
    if home == "":
        return [0]
    return list(range(1, kinds[(questions[home], 0)][2] + 1))


def kinds_of(form):
    """A dict from the keys of what is known to be a form to their kinds, as the made rows ask them."""
    highs = {step[1]: step[2][2] for step, _ in rows_of(form) if step[0] == "ask" and step[2][0] == "count"}
    kinds = {}
    _add_kinds(kinds, form, 0, highs)
    return kinds


def _add_kinds(kinds, steps, person, highs):
    """Add the keys that steps ask of a person."""
    for step in steps:
        if step[0] == "ask":
            kinds[(step[1], person)] = step[2]
        elif step[0] == "each":
            for one in range(1, highs[step[2]] + 1):
                _add_kinds(kinds, step[3], one, highs)
        else:
            for inner in steps_in(step):
                _add_kinds(kinds, inner, person, highs)


def keys_of(form):
    """The keys of a form, as the made rows ask them."""
    check_form(form)
    return tuple(kinds_of(form))


def kind_of(form, key):
    """The kind of a key of a form."""
    check_form(form)
    kinds = kinds_of(form)
    check_key(kinds, key)
    return kinds[key]
