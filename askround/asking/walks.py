"""Made rows gone through from state to state, by numbers of classes in the place of values, all softs let."""

from askround.asking.classes import narrow_sieves
from askround.asking.made import CONDITIONED, made, row_behind
from askround.words.conditions import GROUPS, pieces_of
from askround.words.kinds import is_whole

UNTAKEN = -1


def walk_of(form):
    """The walk through a form; too wide a form is refused."""
    rows = made(form)
    return Walk(rows, narrow_sieves(rows))


class Walk:
    """Made rows, and the sieves of those keys that can be taken.

    On the way marks are a list, for each key asked in the place that places tells: its class, or UNTAKEN.
    A stop is (how many softs didn't hold since the last answer, the row, the state there or None where none is asked).
    """

    def __init__(self, rows, sieves):
        self.rows = rows
        self.sieves = sieves
        self.asked = {row[1]: at for at, row in enumerate(rows) if row[0] == "ask"}
        self.places = {key: place for place, key in enumerate(self.asked)}
        self.latest = _latest_rows(rows)
        self.lives = {}
        self.tests = {}

    def live(self, at):
        """Of the keys live at a row, rising: these, their places, and their numbers of classes."""
        if at not in self.lives:
            keys = sorted([key for key in self.latest if self.asked[key] < at <= self.latest[key]])
            many = [len(self.sieves[key].classes) if key in self.sieves else 0 for key in keys]
            self.lives[at] = (keys, [self.places[key] for key in keys], many)
        return self.lives[at]

    def asks_at(self, thing):
        """Whether a thing is the number of an ask row."""
        return is_whole(thing) and 0 <= thing < len(self.rows) and self.rows[thing][0] == "ask"

    def could_be(self, thing):
        """Whether a thing is a state, come to or not."""
        if not isinstance(thing, tuple) or len(thing) != 2 or not self.asks_at(thing[0]):
            return False
        marks = thing[1]
        _, _, many = self.live(thing[0])
        if not isinstance(marks, tuple) or len(marks) != len(many):
            return False
        return all([is_whole(mark) and UNTAKEN <= mark < top for mark, top in zip(marks, many)])

    def first_stop(self):
        """The stop without answers."""
        return self.stop(0, [UNTAKEN] * len(self.places))

    def start(self):
        """The first state; None where nothing is asked."""
        return self.first_stop()[2]

    def stops(self, state, numbers):
        """The stops behind a state and each of these classes of its key."""
        at, known = state
        marks = [UNTAKEN] * len(self.places)
        for place, mark in zip(self.live(at)[1], known):
            marks[place] = mark
        own = self.places[self.rows[at][1]]
        found = []
        for number in numbers:
            marks[own] = number
            found.append(self.stop(at + 1, marks))
        return found

    def leads(self, state):
        """The states that come behind a state, each as ((key, value), state)."""
        key = self.rows[state[0]][1]
        values = [value for value, _ in self.sieves[key].classes]
        stops = self.stops(state, list(range(len(values))))
        return [((key, value), stop[2]) for value, stop in zip(values, stops) if stop[2] is not None]

    def asked_by(self, numbers):
        """The keys asked by whole answers of these classes, a dict from keys; 0 of those that it doesn't have."""
        marks = [UNTAKEN] * len(self.places)
        found = []
        _, at = self.halt(0, marks)
        while self.rows[at][0] == "ask":
            key = self.rows[at][1]
            found.append(key)
            marks[self.places[key]] = numbers.get(key, 0)
            _, at = self.halt(at + 1, marks)
        return found

    def stop(self, at, marks):
        """The stop to which it goes on from a row."""
        softs, at = self.halt(at, marks)
        if self.rows[at][0] != "ask":
            return softs, self.rows[at], None
        return softs, self.rows[at], (at, tuple([marks[place] for place in self.live(at)[1]]))

    def halt(self, at, marks):
        """How many softs don't hold from a row on to where it stops, and the row there."""
        softs = 0
        behind = self.row_behind_by(at, marks)
        while behind != at or self.rows[at][0] == "soft":
            if behind == at:
                softs += 1
                behind = at + 1
            at = behind
            behind = self.row_behind_by(at, marks)
        return softs, at

    def row_behind_by(self, at, marks):
        """The row that comes behind one; its own where it stops, also by a soft."""
        row = self.rows[at]
        if row[0] not in CONDITIONED:
            return row_behind(row, at, False)
        if at not in self.tests:
            self.tests[at] = self.test_of(row[1])
        return row_behind(row, at, _tells(self.tests[at], marks))

    def test_of(self, condition):
        """A condition with ("piece", place, truths by classes) in the place of pieces."""
        word = condition[0]
        if word == "not":
            return ("not", self.test_of(condition[1]))
        if word in GROUPS:
            return (word, tuple([self.test_of(part) for part in condition[1]]))
        _, key, wanted = condition
        truths = self.sieves[key].truths(word, wanted) if key in self.sieves else []
        # The last one is that of UNTAKEN, as Python counts from the end there.
        return ("piece", self.places[key], (*truths, False))


def _latest_rows(rows):
    """A dict from keys to the last of the made rows that have them in their conditions."""
    latest = {}
    for at, row in enumerate(rows):
        if row[0] in CONDITIONED:
            for piece, _ in pieces_of(row[1]):
                latest[piece[1]] = at
    return latest


def _tells(test, marks):
    """Whether a test holds by marks."""
    word = test[0]
    if word == "piece":
        return test[2][marks[test[1]]]
    if word == "not":
        return not _tells(test[1], marks)
    # Part by part, as on wide forms most of the time goes by here.
    for part in test[1]:
        if _tells(part, marks) != (word == "and"):
            return word == "or"
    return word == "and"
