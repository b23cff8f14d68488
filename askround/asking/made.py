"""Forms made into rows that leap forward, and runs of such rows."""

from askround.asking.plain import answers_in, checks_in, lets_in
from askround.forms.trees import check_form, homes_of, kinds_of, persons_of, questions_of
from askround.words.conditions import GROUPS, ROUNDS, fits

CONDITIONED = ("unless", "when", "hard", "soft")


def made(form):
    """The rows that a form is made into."""
    check_form(form)
    making = Making(form)
    making.add_steps(form, 0, 0)
    return (*making.rows, ("end",))


class Making:
    """The rows of a form made so far."""

    def __init__(self, form):
        self.kinds = kinds_of(form)
        self.homes = homes_of(form)
        self.questions = questions_of(form)
        self.rows = []
        self.leaves = {}

    def add_steps(self, steps, person, number):
        """Add the rows of steps for a person; number is that of the first check in them."""
        for step in steps:
            self.add_step(step, person, number)
            number = number + checks_in((step,))

    def add_step(self, step, person, number):
        """Add the rows of one step."""
        if step[0] == "ask":
            self.rows.append(("ask", (step[1], person), step[2]))
        elif step[0] == "if":
            self.add_if(step, person, number)
        elif step[0] == "part":
            self.leaves[step[1]] = []
            self.add_steps(step[2], person, number)
            self.land(self.leaves[step[1]])
        elif step[0] == "leave":
            self.leaves[step[1]].append(self.leap("when", self.keyed(step[2], person)))
        elif step[0] == "each":
            self.add_round(step, number)
        else:
            self.rows.append((step[0], self.keyed(step[1], person), (number, person)))

    def add_if(self, step, person, number):
        """Add the rows of an if."""
        _, condition, first, second = step
        over_first = [self.leap("unless", self.keyed(condition, person))]
        self.add_steps(first, person, number)
        over_second = [self.leap("go")] if second else []
        self.land(over_first)
        self.add_steps(second, person, number + checks_in(first))
        self.land(over_second)

    def add_round(self, step, number):
        """Add the rows of a round for each one that its folk may have."""
        _, home, question, steps = step
        over_rest = []
        for one in persons_of(home, self.questions, self.kinds):
            over_rest.append(self.leap("unless", ("from", (question, 0), one)))
            self.add_steps(steps, one, number)
        self.land(over_rest)

    def leap(self, *row):
        """Add a row without the row that it leaps to, which isn't known yet; tell its number."""
        self.rows.append(row)
        return len(self.rows) - 1

    def land(self, leaps):
        """Let rows leap to the row that is added next."""
        for at in leaps:
            self.rows[at] = (*self.rows[at], len(self.rows))

    def keyed(self, condition, person):
        """A condition for a person, with keys in the place of names."""
        word = condition[0]
        if word == "not":
            return ("not", self.keyed(condition[1], person))
        if word in GROUPS:
            return (word, tuple([self.keyed(part, person) for part in condition[1]]))
        if word in ROUNDS:
            return self.keyed_round(condition)
        _, name, wanted = condition
        return (word, (name, person if self.homes[name] else 0), wanted)

    def keyed_round(self, condition):
        """An any, an every with keys in the place of names, as an or, an and over the round's folk."""
        word, home, inner = condition
        parts = []
        for one in persons_of(home, self.questions, self.kinds):
            there = ("from", (self.questions[home], 0), one)
            if word == "any":
                parts.append(("and", (there, self.keyed(inner, one))))
            else:
                parts.append(("or", (("not", there), self.keyed(inner, one))))
        return ("or" if word == "any" else "and", tuple(parts))


def run(rows, answers, lets=None, all_let=False):
    """What made rows come to by answers and lets, told as by read."""
    given = answers_in(kinds_asked(rows), answers)
    allowed = lets_in(lets)
    got = {}
    passed = []
    at = stop_row(rows, 0, got)
    while True:
        row = rows[at]
        if row[0] == "ask" and row[1] in given:
            got[row[1]] = given[row[1]]
        elif row[0] == "soft" and (all_let or row[2] in allowed):
            passed.append(row[2])
        else:
            return tuple(got), tuple(passed), then_at(row)
        at = stop_row(rows, at + 1, got)


def kinds_asked(rows):
    """A dict from the keys that made rows ask, in order, to their kinds."""
    return {row[1]: row[2] for row in rows if row[0] == "ask"}


def then_at(row):
    """What is told of a row at which made rows stop."""
    if row[0] == "ask":
        return row[:2]
    return (row[0], row[2]) if row[0] in CONDITIONED else row


def stop_row(rows, at, got):
    """The row, from this one on, at which made rows stop: an ask, a check that doesn't hold, or the end."""
    behind = row_behind(rows[at], at, _row_holds(rows[at], got))
    while behind != at:
        at = behind
        behind = row_behind(rows[at], at, _row_holds(rows[at], got))
    return at


def _row_holds(row, got):
    """Whether a row has a condition that holds by the answers taken."""
    return row[0] in CONDITIONED and keyed_holds(row[1], got)


def row_behind(row, at, held):
    """The number of the row that comes behind one, at which a condition held or not; its own where it stops."""
    if row[0] == "go":
        return row[1]
    if row[0] == "unless":
        return at + 1 if held else row[2]
    if row[0] == "when":
        return row[2] if held else at + 1
    return at + 1 if held else at


def keyed_holds(condition, got):
    """Whether a condition with keys in the place of names holds by the answers taken."""
    word = condition[0]
    if word == "not":
        return not keyed_holds(condition[1], got)
    if word in GROUPS:
        found = [keyed_holds(part, got) for part in condition[1]]
        return all(found) if word == "and" else any(found)
    _, key, wanted = condition
    return key in got and fits(word, wanted, got[key])
