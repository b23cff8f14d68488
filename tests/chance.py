"""Forms, answers and books by chance, from a seed that each test names."""

OPTIONS = ("x", "y", "z")
NAMES = [first + second for first in "abcdefgh" for second in "klmnopqr"]


class Maker:
    """A form that is made by chance, with what its conditions may name."""

    def __init__(self, chance, most):
        self.chance = chance
        self.room = most
        self.names = list(NAMES)
        self.asks = []
        self.rounds = []
        self.home = ""

    def name(self):
        return self.names.pop(self.chance.randrange(len(self.names)))

    def kind(self):
        word = self.chance.choice(("pick", "some", "count", "count"))
        if word == "count":
            low = self.chance.choice((0, 0, 0, 1))
            return ("count", low, self.chance.randrange(low, 5))
        return (word, tuple(self.chance.sample(OPTIONS, self.chance.randrange(1, 4))))

    def piece(self, home):
        asks = [ask for ask in self.asks if ask[2] in ("", home)]
        name, kind, _ = self.chance.choice(asks)
        if kind[0] == "count":
            return (self.chance.choice(("from", "to")), name, self.chance.randrange(0, 5))
        return ("is" if kind[0] == "pick" else "has", name, self.chance.choice(kind[1]))

    def condition(self, home, rounds, room=3):
        word = self.chance.choice(("piece", "piece", "not", "and", "or", "any", "every"))
        if word in ("any", "every") and rounds:
            over = self.chance.choice(rounds)
            return (word, over, self.condition(over, [], room))
        if word == "not" and room > 1:
            return ("not", self.condition(home, rounds, room - 1))
        if word in ("and", "or") and room > 1:
            return (word, tuple(self.condition(home, rounds, room - 1) for _ in range(2)))
        return self.piece(home)

    def any_condition(self):
        return self.condition(self.home, [] if self.home else self.rounds)

    def steps(self, parts, depth):
        made = []
        while self.room > 0 and self.chance.random() < 0.85:
            made.append(self.step(parts, depth))
        return tuple(made)

    def step(self, parts, depth):
        self.room -= 1
        word = self.chance.choice(("ask", "ask", "ask", "if", "part", "leave", "each", "hard", "soft", "soft"))
        asks = [ask for ask in self.asks if ask[2] in ("", self.home)]
        questions = [name for name, kind, home in self.asks if home == "" and kind[0] == "count"]
        if word == "each" and depth < 5 and not self.home and questions:
            return self.round(parts, depth, questions)
        if word == "part" and depth < 5:
            name = self.name()
            return ("part", name, self.steps([*parts, name], depth + 1))
        if word in ("if", "leave", "hard", "soft") and asks:
            if word == "if" and depth < 5:
                return ("if", self.any_condition(), self.steps(parts, depth + 1), self.steps(parts, depth + 1))
            if word == "leave" and parts:
                return ("leave", self.chance.choice(parts), self.any_condition())
            return (word if word in ("hard", "soft") else "soft", self.any_condition())
        name, kind = self.name(), self.kind()
        self.asks.append((name, kind, self.home))
        return ("ask", name, kind)

    def round(self, parts, depth, questions):
        name, question = self.name(), self.chance.choice(questions)
        self.home = name
        steps = self.steps(parts, depth + 1)
        self.home = ""
        self.rounds.append(name)
        return ("each", name, question, steps)


def random_form(chance, most=14):
    maker = Maker(chance, most)
    made = [maker.step([], 1)]
    while maker.room > 0:
        made.append(maker.step([], 1))
    return tuple(made)


def random_value(chance, kind):
    if kind[0] == "pick":
        return chance.choice(kind[1])
    if kind[0] == "some":
        return tuple(option for option in kind[1] if chance.random() < 0.5)
    return chance.randrange(kind[1], kind[2] + 1)


def other_value(chance, kind):
    """What is often no value of the kind."""
    return chance.choice(("x", "w", (), ("z", "y", "x"), ("w",), 0, 4, 9, random_value(chance, kind)))


def random_answers(chance, keys, share):
    """Answers of a share of the keys, a few of them with no value of the kind."""
    found = {}
    for key, kind in keys:
        if chance.random() < share:
            found[key] = other_value(chance, kind) if chance.random() < 0.03 else random_value(chance, kind)
    return found


def random_book(chance, keys, checks, many):
    """A book that tells and strikes few of the keys often, and lets the checks."""
    stamps = chance.sample([(moment, hand) for moment in range(many) for hand in ("a", "b", "c")], many)
    return tuple((*stamp, random_deed(chance, keys, checks)) for stamp in stamps)


def random_deed(chance, keys, checks):
    word = chance.choice(("tell", "tell", "tell", "strike", "let", "let"))
    if word == "let":
        return ("let", chance.choice(checks))
    key, kind = chance.choice(keys)
    if chance.random() < 0.1:
        key = (key[0], chance.randrange(5))
    if word == "strike":
        return ("strike", key)
    return ("tell", key, other_value(chance, kind) if chance.random() < 0.1 else random_value(chance, kind))
