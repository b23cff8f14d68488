"""An own way to ask a form, for tests alone: leaping rows with keys in the place of names."""


class Rows:
    def __init__(self, form):
        self.rows = []
        self.kinds = {}
        self.homes = {}
        self.rounds = {}
        self.checks = 0
        self.ends = {}
        self.add_steps(form, 0, "")
        self.rows.append(("end",))
        self.rows = [tuple(row) for row in self.rows]

    def keyed(self, condition, person):
        word = condition[0]
        if word == "not":
            return ("not", self.keyed(condition[1], person))
        if word in ("and", "or"):
            return (word, tuple(self.keyed(part, person) for part in condition[1]))
        if word in ("any", "every"):
            question = (self.rounds[condition[1]], 0)
            parts = []
            for one in range(1, self.kinds[question[0]][2] + 1):
                there, inner = ("from", question, one), self.keyed(condition[2], one)
                parts.append(("and", (there, inner)) if word == "any" else ("or", (("not", there), inner)))
            return ("or" if word == "any" else "and", tuple(parts))
        return (word, (condition[1], person if self.homes[condition[1]] else 0), condition[2])

    def leap(self, word, *rest):
        self.rows.append([word, *rest, None])
        return len(self.rows) - 1

    def land(self, at):
        self.rows[at][-1] = len(self.rows)

    def add_steps(self, steps, person, home):
        for step in steps:
            getattr(self, "add_" + step[0])(step, person, home)

    def add_ask(self, step, person, home):
        self.kinds[step[1]] = step[2]
        self.homes[step[1]] = home
        self.rows.append(("ask", (step[1], person), step[2]))

    def add_if(self, step, person, home):
        at = self.leap("unless", self.keyed(step[1], person))
        self.add_steps(step[2], person, home)
        over = self.leap("go") if step[3] else None
        self.land(at)
        self.add_steps(step[3], person, home)
        if over is not None:
            self.land(over)

    def add_part(self, step, person, home):
        before = self.ends.get(step[1])
        self.ends[step[1]] = []
        self.add_steps(step[2], person, home)
        for at in self.ends[step[1]]:
            self.land(at)
        self.ends[step[1]] = before

    def add_leave(self, step, person, home):
        self.ends[step[1]].append(self.leap("when", self.keyed(step[2], person)))

    def add_each(self, step, person, home):
        self.rounds[step[1]] = step[2]
        leaps, first = [], self.checks
        for one in range(1, self.kinds[step[2]][2] + 1):
            leaps.append(self.leap("unless", ("from", (step[2], 0), one)))
            self.checks = first
            self.add_steps(step[3], one, step[1])
        if not leaps:
            self.checks += len(checks_in(step[3]))
            self.note_homes(step[3], step[1])
        for at in leaps:
            self.land(at)

    def note_homes(self, steps, home):
        for step in steps:
            if step[0] == "ask":
                self.kinds[step[1]], self.homes[step[1]] = step[2], home
            for part in step[1:]:
                if step[0] in ("if", "part") and isinstance(part, tuple) and (part == () or isinstance(part[0], tuple)):
                    self.note_homes(part, home)

    def add_hard(self, step, person, home):
        self.rows.append((step[0], self.keyed(step[1], person), (self.checks, person)))
        self.checks += 1

    add_soft = add_hard


def checks_in(steps):
    found = []
    for step in steps:
        if step[0] in ("hard", "soft"):
            found.append(step)
        for part in step[1:]:
            if step[0] in ("if", "part", "each") and isinstance(part, tuple) and part and isinstance(part[0], tuple):
                found.extend(checks_in(part))
    return found


def says(condition, taken):
    word = condition[0]
    if word == "not":
        return not says(condition[1], taken)
    if word == "and":
        return all(says(part, taken) for part in condition[1])
    if word == "or":
        return any(says(part, taken) for part in condition[1])
    if condition[1] not in taken:
        return False
    answer = taken[condition[1]]
    return {"is": lambda: answer == condition[2], "has": lambda: condition[2] in answer,
            "from": lambda: answer >= condition[2], "to": lambda: answer <= condition[2]}[word]()


def is_of(kind, value):
    if kind[0] == "pick":
        return isinstance(value, str) and value in kind[1]
    if kind[0] == "some":
        return isinstance(value, tuple) and value == tuple(o for o in kind[1] if o in value)
    return type(value) is int and kind[1] <= value <= kind[2]


def run(form, answers, lets, all_let):
    rows = Rows(form).rows
    at, taken, passed = 0, {}, []
    while True:
        row = rows[at]
        at += 1
        if row[0] == "end":
            return tuple(taken), tuple(passed), ("end",)
        if row[0] == "ask":
            if row[1] not in answers or not is_of(row[2], answers[row[1]]):
                return tuple(taken), tuple(passed), ("ask", row[1])
            taken[row[1]] = answers[row[1]]
        elif row[0] == "go":
            at = row[1]
        elif row[0] in ("unless", "when"):
            at = row[2] if says(row[1], taken) == (row[0] == "when") else at
        elif not says(row[1], taken):
            if row[0] == "hard" or not (all_let or row[2] in lets):
                return tuple(taken), tuple(passed), (row[0], row[2])
            passed.append(row[2])


def keys_asked(form):
    return [(row[1], row[2]) for row in Rows(form).rows if row[0] == "ask"]


def checks_run(form):
    return [(row[0], row[2], row[1]) for row in Rows(form).rows if row[0] in ("hard", "soft")]
