"""Forms as texts, a row for each step, else and end."""

from askround.errors import NoCondition, NoForm, NoKind
from askround.forms.growth import Growth
from askround.forms.trees import check_form
from askround.words.conditions import condition_text, read_condition
from askround.words.kinds import kind_text, read_kind


def form_text(form):
    """The text that a form is written as."""
    check_form(form)
    return "\n".join(_rows_of(form))


def _rows_of(steps):
    """The rows that steps are written in."""
    rows = []
    for step in steps:
        if step[0] == "if":
            rows.append(f"if {condition_text(step[1])}")
            rows.extend(_rows_of(step[2]))
            if step[3]:
                rows.extend(["else", *_rows_of(step[3])])
            rows.append("end")
        elif step[0] in ("part", "each"):
            rows.append(" ".join(step[:-1]))
            rows.extend(_rows_of(step[-1]))
            rows.append("end")
        else:
            rows.append(_single_row(step))
    return rows


def _single_row(step):
    """The row of a step in which no steps stand."""
    if step[0] == "ask":
        return f"ask {step[1]} {kind_text(step[2])}"
    return " ".join([*step[:-1], condition_text(step[-1])])


def read_form(text):
    """The form that is written as this text."""
    if not isinstance(text, str):
        raise NoForm(-1)
    rows = text.split("\n") if text else []
    growth = Growth()
    for number, row in enumerate(rows):
        head = _head_in(row)
        if head is None or not growth.grow(head):
            raise NoForm(number)
    if not growth.ended():
        raise NoForm(len(rows))
    return growth.steps()


def _head_in(row):
    """What a row is, read as a step without the steps in it, an else or an end; None where it is none."""
    if row in ("else", "end"):
        return (row,)
    word, _, rest = row.partition(" ")
    if word == "part":
        return ("part", rest)
    if word == "each":
        name, _, question = rest.partition(" ")
        return ("each", name, question)
    try:
        return _head_with(word, rest)
    except (NoKind, NoCondition):
        return None


def _head_with(word, rest):
    """What a row that holds a kind or a condition is; None where its word is no such row's."""
    if word in ("if", "hard", "soft"):
        return (word, read_condition(rest))
    name, _, inner = rest.partition(" ")
    if word == "ask":
        return ("ask", name, read_kind(inner))
    if word == "leave":
        return ("leave", name, read_condition(inner))
    return None
