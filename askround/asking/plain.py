"""The plain reading of a form, step by step."""

from askround.forms.trees import check_form, kinds_of, questions_of, rows_of, steps_in
from askround.words.conditions import holds_by
from askround.words.keys import is_check, is_key
from askround.words.kinds import is_value


def read(form, answers, lets=None, all_let=False):
    """What a form is read to by answers and lets: the keys taken, the checks let, and what comes then."""
    check_form(form)
    reading = Reading(form, answers, lets, all_let)
    reading.go(form, 0, 0)
    return tuple(reading.got), tuple(reading.passed), reading.last or ("end",)


def answers_in(kinds, answers):
    """The answers that count: those of these keys with values of their kinds."""
    # is_key goes first: to Python a truth as person would be the key with 0 or 1.
    return {
        key: value for key, value in answers.items()
        if is_key(key) and key in kinds and is_value(kinds[key], value)
    }


def lets_in(lets):
    """A dict from the lets that could be of checks to True."""
    # is_check goes first, as truths would be numbers to Python here, too.
    return {check: True for check in lets or () if is_check(check)}


def checks_in(steps):
    """How many checks steps are or have in them."""
    return len([step for step, _ in rows_of(steps) if step[0] in ("hard", "soft")])


class Reading:
    """A reading as far as it has come."""

    def __init__(self, form, answers, lets, all_let):
        self.given = answers_in(kinds_of(form), answers)
        self.allowed = lets_in(lets)
        self.lenient = all_let
        self.questions = questions_of(form)
        self.got = {}
        self.passed = []
        self.last = ()
        self.leaving = ""

    def go(self, steps, person, number):
        """Go through steps for a person; number is that of the first check in them."""
        for step in steps:
            self.come(step, person, number)
            if self.stopped():
                return
            number = number + checks_in((step,))

    def stopped(self):
        """Whether the step behind isn't come to."""
        return self.last != () or self.leaving != ""

    def come(self, step, person, number):
        """Go through one step."""
        if step[0] == "ask":
            self.ask((step[1], person))
        elif step[0] == "if":
            self.branch(step, person, number)
        elif step[0] == "part":
            self.go(step[2], person, number)
            if self.leaving == step[1]:
                self.leaving = ""
        elif step[0] == "leave":
            if self.says(step[2], person):
                self.leaving = step[1]
        elif step[0] == "each":
            self.go_round(step, number)
        elif not self.says(step[1], person):
            self.fail(step[0], (number, person))

    def ask(self, key):
        """Take the answer of a key, or end at it."""
        if key in self.given:
            self.got[key] = self.given[key]
        else:
            self.last = ("ask", key)

    def branch(self, step, person, number):
        """Go through the first or the second steps of an if."""
        first, second = steps_in(step)
        if self.says(step[1], person):
            self.go(first, person, number)
        else:
            self.go(second, person, number + checks_in(first))

    def go_round(self, step, number):
        """Go through the steps of a round for each one of its folk."""
        for one in range(1, self.got.get((step[2], 0), 0) + 1):
            self.go(step[3], one, number)
            if self.stopped():
                return

    def fail(self, word, check):
        """End at a check that doesn't hold, but for a soft one that is let."""
        if word == "soft" and (self.lenient or check in self.allowed):
            self.passed.append(check)
        else:
            self.last = (word, check)

    def says(self, condition, person):
        """Whether a condition holds by what was taken so far."""
        folk = {home: self.got.get((question, 0), 0) for home, question in self.questions.items()}
        return holds_by(condition, self.got, person, folk)
