"""Sittings, which take entries for a form that may change."""

from askround.book.changes import carried
from askround.book.entries import MOST_ENTRIES, answers_by, by_stamps, is_stamp, joined, read_by, softs_of, stamp_of
from askround.errors import Full, NoCheck, NoEntry, NoValue, Stuck, Twice
from askround.forms.trees import check_form, kinds_of
from askround.words.keys import check_key, is_check
from askround.words.kinds import is_value


class Sitting:
    """A form and a book of entries for it, with the way there."""

    def __init__(self, form):
        check_form(form)
        self._form = form
        self._book = ()
        # What form and book were ahead of each turn, so that back finds its way.
        self._trail = []

    def tell(self, moment, hand, key, value):
        """Take an entry that tells the value of a key."""
        _check_stamp(moment, hand)
        kinds = kinds_of(self._form)
        check_key(kinds, key)
        if not is_value(kinds[key], value):
            raise NoValue("no value of the key's kind")
        self._take((moment, hand, ("tell", key, value)))

    def strike(self, moment, hand, key):
        """Take an entry that strikes the answer of a key."""
        _check_stamp(moment, hand)
        check_key(kinds_of(self._form), key)
        self._take((moment, hand, ("strike", key)))

    def let(self, moment, hand, check):
        """Take an entry that lets a soft check."""
        _check_stamp(moment, hand)
        if not is_check(check) or check not in softs_of(self._form):
            raise NoCheck("no soft check of the form")
        self._take((moment, hand, ("let", check)))

    def join(self, book):
        """Join a book to its own."""
        self._turn(self._form, joined(self._book, book))

    def change(self, form, names=None):
        """Go over to another form, to which its book is carried."""
        self._turn(form, carried(self._form, self._book, form, names))

    def back(self):
        """Undo the last of all these that stands."""
        if not self._trail:
            raise Stuck("nothing stands that could be undone")
        self._form, self._book = self._trail.pop()

    def form(self):
        """Its form."""
        return self._form

    def book(self):
        """Its entries, by stamps."""
        return self._book

    def now(self):
        """What it has come to."""
        return read_by(self._form, self._book)[2]

    def answers(self):
        """A dict from the keys to the answers that stand."""
        return answers_by(self._form, self._book)

    def __eq__(self, other):
        return isinstance(other, Sitting) and self._form == other._form and self._book == other._book

    def __len__(self):
        return len(self._book)

    def _take(self, entry):
        """Put an entry to the others."""
        if stamp_of(entry) in [stamp_of(one) for one in self._book]:
            raise Twice("the stamp stands already")
        if len(self._book) == MOST_ENTRIES:
            raise Full("there is no room for another entry")
        self._turn(self._form, by_stamps([*self._book, entry]))

    def _turn(self, form, book):
        """Go on with this form and this book."""
        self._trail.append((self._form, self._book))
        self._form = form
        self._book = book


def _check_stamp(moment, hand):
    """Refuse what is no moment or no hand."""
    if not is_stamp(moment, hand):
        raise NoEntry("no moment or no hand")
