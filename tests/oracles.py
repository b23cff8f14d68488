"""Own, slow ways to classes, states, comings, pairs and hangings, of small forms, for tests alone."""

import itertools

from askround.asking.plain import read
from tests import made_rows
from tests.test_kinds import values_of

CONDITIONED = ("unless", "when", "hard", "soft")


def pieces_in(condition):
    if condition[0] == "not":
        return pieces_in(condition[1])
    if condition[0] in ("and", "or"):
        return [piece for part in condition[1] for piece in pieces_in(part)]
    return [condition]


def sorts_by(key, kind, pieces):
    """The values of a kind, those for which all pieces about a key hold alike together."""
    found = {}
    for value in values_of(kind):
        found.setdefault(tuple(made_rows.says(piece, {key: value}) for piece in pieces if piece[1] == key), []).append(value)
    return list(found.values())


def how_many(kinds):
    """How many whole answers there are."""
    many = 1
    for kind in kinds.values():
        many *= len(values_of(kind))
    return many


class Oracle:
    """The states of a form, by the made rows; sorts are the values of each key that can be taken, by classes."""

    def __init__(self, form, sorts=None):
        self.form = form
        self.rows = made_rows.Rows(form).rows
        self.kinds = {row[1]: row[2] for row in self.rows if row[0] == "ask"}
        self.pieces = [piece for row in self.rows if row[0] in CONDITIONED for piece in pieces_in(row[1])]
        self.sorts = {key: sorts_by(key, self.kinds[key], self.pieces) for key in self.kinds} if sorts is None else sorts
        self.asked = {row[1]: at for at, row in enumerate(self.rows) if row[0] == "ask"}
        self.lives = {at: self.live(at) for at in self.asked.values()}

    def live(self, at):
        named = {piece[1] for row in self.rows[at:] if row[0] in CONDITIONED for piece in pieces_in(row[1])}
        return sorted(row[1] for row in self.rows[:at] if row[0] == "ask" and row[1] in named)

    def go(self, at, taken):
        """How many softs don't hold from a row on, the row at which it stops, and the state there."""
        softs = 0
        while True:
            row = self.rows[at]
            held = row[0] in CONDITIONED and made_rows.says(row[1], taken)
            if row[0] in ("ask", "end") or (row[0] == "hard" and not held):
                return softs, row, self.state(at, taken) if row[0] == "ask" else None
            softs += row[0] == "soft" and not held
            if row[0] == "go":
                at = row[1]
            elif row[0] in ("unless", "when") and held == (row[0] == "when"):
                at = row[2]
            else:
                at += 1

    def state(self, at, taken):
        return (at, tuple(self.number(key, taken[key]) if key in taken else -1 for key in self.lives[at]))

    def number(self, key, value):
        return [value in values for values in self.sorts[key]].index(True)

    def first(self):
        return self.go(0, {})

    def behind(self, state, number):
        """The stop behind a state; the last value of each class stands for it."""
        at, marks = state
        taken = {key: self.sorts[key][mark][-1] for key, mark in zip(self.lives[at], marks) if mark >= 0}
        taken[self.rows[at][1]] = self.sorts[self.rows[at][1]][number][-1]
        return self.go(at + 1, taken)

    def all_behind(self, state):
        stops = [self.behind(state, number) for number in range(len(self.sorts[self.rows[state[0]][1]]))]
        return [stop[2] for stop in stops if stop[2] is not None]

    def reached(self):
        """The states that any answers, the first value of each class, come to, each by the answers themselves."""
        found, waiting = set(), [{}]
        while waiting:
            answers = waiting.pop()
            stop = self.look(answers)
            if stop[2] is not None:
                found.add(stop[2])
                key = stop[1][1]
                waiting.extend({**answers, key: values[0]} for values in self.sorts[key])
        return tuple(sorted(found))

    def look(self, answers):
        """The stop behind answers, from the first row on."""
        softs, at, taken = 0, 0, {}
        while True:
            softs, row, state = self.go(at, taken)
            if row[0] != "ask" or row[1] not in answers:
                return softs, row, state
            taken[row[1]] = answers[row[1]]
            at = self.asked[row[1]] + 1

    def is_state(self, thing):
        if type(thing) is not tuple or len(thing) != 2 or type(thing[0]) is not int or thing[0] not in self.lives:
            return False
        keys = self.lives[thing[0]]
        return type(thing[1]) is tuple and len(thing[1]) == len(keys) and all(
            type(mark) is int and -1 <= mark < len(self.sorts.get(key, ())) for mark, key in zip(thing[1], keys)
        )

    def are_states(self, thing):
        return type(thing) is tuple and all(self.is_state(state) for state in thing) and list(thing) == sorted(set(thing))

    def is_table(self, thing):
        return self.are_states(thing) and self.holds(thing, [self.first()[2]]) and all(self.holds(thing, self.all_behind(state)) for state in thing)

    def holds(self, room, states):
        return all(state is None or state in room for state in states)

    def is_shut(self, key, thing):
        return self.is_table(thing) and all(state[0] != self.asked[key] for state in thing)

    def fewest(self, key):
        """How few answers, of any values, come to a key; None where it is never asked."""
        layer = [{}]
        for many in range(len(self.kinds) + 1):
            stops = [(answers, read(self.form, answers, None, True)[2]) for answers in layer]
            if any(then == ("ask", key) for _, then in stops):
                return many
            layer = [{**answers, then[1]: value} for answers, then in stops if then[0] == "ask" for value in values_of(self.kinds[then[1]])]
        return None

    def shows_come(self, key, thing):
        if type(thing) is not tuple or len(thing) not in (2, 3):
            return False
        if len(thing) == 2:
            return thing[0] == "never" and self.is_shut(key, thing[1])
        word, answers, layers = thing
        if word != "answers" or type(answers) is not tuple or type(layers) is not tuple or len(answers) != len(layers):
            return False
        if not all(type(pair) is tuple and len(pair) == 2 for pair in answers) or not all(self.are_states(layer) for layer in layers):
            return False
        taken = {}
        for pair in answers:
            then = read(self.form, taken, None, True)[2]
            if then != ("ask", pair[0]) or type(pair[0][1]) is not int or not made_rows.is_of(self.kinds[then[1]], pair[1]):
                return False
            taken[pair[0]] = pair[1]
        if read(self.form, taken, None, True)[2] != ("ask", key) or any(state[0] == self.asked[key] for layer in layers for state in layer):
            return False
        ahead = [self.first()[2]]
        for layer in layers:
            if not self.holds(layer, ahead):
                return False
            ahead = [behind for state in layer for behind in self.all_behind(state)]
        return True

    def wholes(self):
        """All whole answers."""
        return [dict(zip(self.kinds, values)) for values in itertools.product(*[values_of(kind) for kind in self.kinds.values()])]

    def hanging(self):
        """For each pair (key, other), whether the key hangs on the other."""
        keys = list(self.kinds)
        asked = {tuple(whole.values()): set(read(self.form, whole, None, True)[0]) for whole in self.wholes()}
        found = set()
        for values in asked:
            for at, other in enumerate(keys):
                for value in values_of(self.kinds[other]):
                    unlike = asked[values] ^ asked[(*values[:at], value, *values[at + 1:])]
                    found.update((key, other) for key in unlike)
        return found

    def shows_hang(self, key, other, thing):
        if type(thing) is not tuple or len(thing) != 2 or type(thing[0]) is not dict:
            return False
        answers, value = thing
        if sorted(map(repr, answers)) != sorted(map(repr, self.kinds)) or not all(made_rows.is_of(kind, answers[one]) for one, kind in self.kinds.items()):
            return False
        if not made_rows.is_of(self.kinds[other], value) or answers[other] == value:
            return False
        return (key in read(self.form, answers, None, True)[0]) != (key in read(self.form, {**answers, other: value}, None, True)[0])


class PairOracle:
    """The pairs of two forms."""

    def __init__(self, one, other):
        forms = [Oracle(one), Oracle(other)]
        both = [key for key, kind in forms[0].kinds.items() if forms[1].kinds.get(key) == kind]
        self.sorts = {key: sorts_by(key, forms[0].kinds[key], forms[0].pieces + forms[1].pieces) for key in both}
        self.forms = [Oracle(one, self.sorts), Oracle(other, self.sorts)]

    def alike(self, stops):
        (softs, row, _), (other_softs, other_row, _) = stops
        if row[0] == "ask" or other_row[0] == "ask":
            return softs == other_softs and row == other_row
        return softs == other_softs and row[0] == other_row[0]

    def looks(self, answers):
        return [form.look(answers) for form in self.forms]

    def fewest(self):
        """How few answers, of any values, part both; None where they are alike."""
        layer = [{}]
        for many in range(len(self.sorts) + 2):
            looks = [(answers, self.looks(answers)) for answers in layer]
            if not all(self.alike(stops) for _, stops in looks):
                return many
            rows = [(answers, stops[0][1]) for answers, stops in looks]
            layer = [{**answers, row[1]: value} for answers, row in rows if row[0] == "ask" for value in values_of(row[2])]
        return None

    def is_pair(self, thing):
        if type(thing) is not tuple or len(thing) != 4 or not self.forms[0].is_state(thing[:2]) or not self.forms[1].is_state(thing[2:]):
            return False
        return self.forms[0].rows[thing[0]] == self.forms[1].rows[thing[2]]

    def are_pairs(self, thing):
        return type(thing) is tuple and all(self.is_pair(pair) for pair in thing) and list(thing) == sorted(set(thing))

    def leads_into(self, pairs, room):
        """Whether all behind pairs look alike and, where both ask, are in the room."""
        for pair in pairs:
            for number in range(len(self.sorts[self.forms[0].rows[pair[0]][1]])):
                stops = [self.forms[0].behind(pair[:2], number), self.forms[1].behind(pair[2:], number)]
                if not self.alike(stops) or (stops[0][2] is not None and (*stops[0][2], *stops[1][2]) not in room):
                    return False
        return True

    def starts_in(self, room):
        stops = [form.first() for form in self.forms]
        return self.alike(stops) and (stops[0][2] is None or (*stops[0][2], *stops[1][2]) in room)

    def shows_two(self, thing):
        if type(thing) is not tuple or len(thing) not in (2, 3):
            return False
        if len(thing) == 2:
            return thing[0] == "alike" and self.are_pairs(thing[1]) and self.starts_in(thing[1]) and self.leads_into(thing[1], thing[1])
        word, answers, layers = thing
        if word != "parted" or type(answers) is not tuple or type(layers) is not tuple or len(answers) != len(layers):
            return False
        if not all(type(pair) is tuple and len(pair) == 2 for pair in answers) or not all(self.are_pairs(layer) for layer in layers):
            return False
        taken = {}
        for key, value in answers:
            stops = self.looks(taken)
            row = stops[0][1]
            if not self.alike(stops) or row[0] != "ask" or row[1] != key or type(key[1]) is not int or not made_rows.is_of(row[2], value):
                return False
            taken[key] = value
        if self.alike(self.looks(taken)):
            return False
        if layers and not self.starts_in(layers[0]):
            return False
        return all(self.leads_into(layer, behind) for layer, behind in zip(layers, layers[1:]))
