"""Records, answers to a form's end, and lines, by which they are told apart."""

from askround.asking.plain import read
from askround.errors import NoLines, NoRecord, NoRound
from askround.forms.growth import can_ask
from askround.forms.trees import check_form, questions_of, rows_of
from askround.words.conditions import is_condition
from askround.words.kinds import is_name

MOST_RECORDS = 40
MOST_LINES = 8


def are_records(form, thing):
    """Whether a thing is records of a form."""
    check_form(form)
    return _first_wrong(form, thing) is None


def check_records(form, thing):
    """Refuse what is no records of a form."""
    wrong = _first_wrong(form, thing)
    if wrong is not None:
        raise NoRecord(wrong)


def _first_wrong(form, thing):
    """The number of the first that is no record, -1 of what is no tuple of so many; None where all are records."""
    if not isinstance(thing, tuple) or len(thing) > MOST_RECORDS:
        return -1
    for number, record in enumerate(thing):
        if not _is_record(form, record):
            return number
    return None


def _is_record(form, thing):
    """Whether a thing is a dict of answers by which, all softs let, a form is read to its end."""
    return isinstance(thing, dict) and read(form, thing, None, True)[2] == ("end",)


def are_lines(form, thing, over=None):
    """Whether a thing is lines of a form, over a round or over none."""
    check_form(form)
    check_over(form, over)
    return _stand(form, thing, over)


def check_lines(form, thing, over):
    """Refuse what is no lines of a form, over a round of it or over none."""
    if not _stand(form, thing, over):
        raise NoLines("no lines of the form")


def check_over(form, over):
    """Refuse what is no round of a form, but for None, which is over none."""
    if over is not None and not (is_name(over) and over in questions_of(form)):
        raise NoRound("no round of the form")


def _stand(form, thing, over):
    """Whether a thing is conditions, not too many, that a last check of the form, or of the round over, could have."""
    if not isinstance(thing, tuple) or not 1 <= len(thing) <= MOST_LINES:
        return False
    ahead = _rows_ahead(form, over)
    asks = [(step, home) for step, home in ahead if step[0] == "ask"]
    kinds = {step[1]: step[2] for step, _ in asks}
    homes = {step[1]: home for step, home in asks}
    rounds = {step[1]: True for step, _ in ahead if step[0] == "each"}
    return all([is_condition(line) and can_ask(line, over or "", kinds, homes, rounds) for line in thing])


def _rows_ahead(form, over):
    """The rows, as (step, its round or no name), ahead of a last check of the form, or of the round over."""
    rows = rows_of(form)
    if over is None:
        return rows
    begin = [step[:2] for step, _ in rows].index(("each", over))
    inner = rows_of(rows[begin][0][3], over)
    return rows[:begin + 1 + len(inner)]
