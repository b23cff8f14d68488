"""Askers, which go on through a form answer by answer."""

from askround.asking.made import made, stop_row, then_at
from askround.errors import NoValue, Stuck
from askround.words.kinds import is_value


class Asker:
    """A form that is asked: it stops at an ask, at a check that doesn't hold, or at the end."""

    def __init__(self, form):
        self._rows = made(form)
        self._asked = form
        self._told = {}
        self._passed = []
        # The rows at which it was told or let something, so that back finds its way.
        self._trail = []
        self._at = stop_row(self._rows, 0, self._told)

    def tell(self, value):
        """Tell the value of the key that is asked."""
        row = self._rows[self._at]
        if row[0] != "ask":
            raise Stuck("nothing is asked")
        if not is_value(row[2], value):
            raise NoValue("no value of the kind that is asked for")
        self._told[row[1]] = value
        self._go_on()

    def let(self):
        """Let the soft check at which it stops."""
        row = self._rows[self._at]
        if row[0] != "soft":
            raise Stuck("it doesn't stop by a soft check")
        self._passed.append(row[2])
        self._go_on()

    def back(self):
        """Undo the last telling or letting."""
        if not self._trail:
            raise Stuck("nothing was told or let")
        self._at = self._trail.pop()
        row = self._rows[self._at]
        if row[0] == "ask":
            del self._told[row[1]]
        else:
            self._passed.pop()

    def now(self):
        """What it has come to."""
        return then_at(self._rows[self._at])

    def taken(self):
        """The answers told, each as (key, value), in order."""
        return tuple(self._told.items())

    def lets(self):
        """The checks let, in order."""
        return tuple(self._passed)

    def __eq__(self, other):
        return (
            isinstance(other, Asker) and self._asked == other._asked and self._told == other._told
            and self._passed == other._passed
        )

    def __len__(self):
        return len(self._told)

    def _go_on(self):
        """Go on behind the row at which it stops."""
        self._trail.append(self._at)
        self._at = stop_row(self._rows, self._at + 1, self._told)
