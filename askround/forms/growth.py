"""Forms that grow row by row: what can stand behind the rows ahead."""

from askround.words.conditions import is_condition, pieces_of
from askround.words.keys import MOST_STEPS, TOP_PERSON
from askround.words.kinds import is_kind, is_name

MOST_WITHIN = 5
KINDS_OF_PIECES = {"is": "pick", "has": "some", "from": "count", "to": "count"}


class Frame:
    """A step that isn't ended yet, with the steps in it so far."""

    def __init__(self, head):
        self.head = head
        self.first = []
        self.second = None

    def put(self, step):
        """Put a step behind those that are in it."""
        if self.second is None:
            self.first.append(step)
        else:
            self.second.append(step)

    def whole(self):
        """The step, ended."""
        if self.head[0] != "if":
            return (*self.head, tuple(self.first))
        return (*self.head, tuple(self.first), tuple(self.second or []))


class Growth:
    """The rows of a form so far, each as a tuple: a step without the steps in it, or an else, an end."""

    def __init__(self):
        self.kinds = {}
        self.homes = {}
        self.rounds = {}
        self.named = {}
        self.many = 0
        # The bottom frame stands for the form, so that each step is added to the last frame.
        self.frames = [Frame(("form",))]

    def grow(self, row):
        """Add a row where it can stand; tell whether it could."""
        if row[0] == "else":
            return self._turn()
        if row[0] == "end":
            return self._close()
        if self.many == MOST_STEPS or len(self.frames) > MOST_WITHIN or not self._stands(row):
            return False
        self.many += 1
        self._note(row)
        if row[0] in ("if", "part", "each"):
            self.frames.append(Frame(row))
        else:
            self.frames[-1].put(row)
        return True

    def ended(self):
        """Whether all that was begun is ended."""
        return len(self.frames) == 1

    def steps(self):
        """The steps on top that are ended."""
        return tuple(self.frames[0].first)

    def _turn(self):
        """Go on to the second steps of the last if."""
        frame = self.frames[-1]
        if frame.head[0] != "if" or frame.second is not None:
            return False
        frame.second = []
        return True

    def _close(self):
        """End the last step that isn't ended."""
        if self.ended() or self.frames[-1].second == []:
            return False
        frame = self.frames.pop()
        self.frames[-1].put(frame.whole())
        return True

    def _home(self):
        """The round that isn't ended, or no name."""
        for frame in self.frames:
            if frame.head[0] == "each":
                return frame.head[1]
        return ""

    def _stands(self, row):
        """Whether a row that begins a step can stand, but for how many and how deep steps are."""
        if row[0] == "ask":
            return self._is_new(row[1]) and is_kind(row[2])
        if row[0] == "part":
            return self._is_new(row[1])
        if row[0] == "each":
            return self._home() == "" and self._is_new(row[1]) and self._counts_folk(row[2])
        if row[0] == "leave" and not any([frame.head == ("part", row[1]) for frame in self.frames]):
            return False
        return is_condition(row[-1]) and can_ask(row[-1], self._home(), self.kinds, self.homes, self.rounds)

    def _is_new(self, name):
        """Whether a thing is a name that no ask, part or round has."""
        return is_name(name) and name not in self.named

    def _counts_folk(self, question):
        """Whether a thing is the question that a round may have."""
        if not is_name(question) or self.homes.get(question, "none") != "":
            return False
        kind = self.kinds[question]
        return kind[0] == "count" and kind[2] <= TOP_PERSON

    def _note(self, row):
        """Keep what later rows may name."""
        if row[0] in ("ask", "part", "each"):
            self.named[row[1]] = True
        if row[0] == "ask":
            self.kinds[row[1]] = row[2]
            self.homes[row[1]] = self._home()
        if row[0] == "each":
            self.rounds[row[1]] = True


def can_ask(condition, home, kinds, homes, rounds):
    """Whether a condition in the round home names only what it may.

    Ahead of it stand the asks of which kinds and homes are dicts, and these rounds, keys of a dict.
    """
    for piece, over in pieces_of(condition):
        # Where no round is open, each round so far is ended.
        if over and (home or over not in rounds):
            return False
        if not _can_ask_piece(piece, over or home, kinds, homes):
            return False
    return True


def _can_ask_piece(piece, home, kinds, homes):
    """Whether a piece names an ask of the round home or of none, of the kind it speaks of."""
    word, name, wanted = piece
    if name not in kinds or homes[name] not in ("", home):
        return False
    kind = kinds[name]
    return kind[0] == KINDS_OF_PIECES[word] and (kind[0] == "count" or wanted in kind[1])
