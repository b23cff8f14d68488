"""A desk, at which a sitting and its records are spoken with by rows of words."""

from askround.asking.comes import come_to
from askround.book.entries import read_by
from askround.book.sittings import Sitting
from askround.desk.texts import book_text, read_book, told_text
from askround.errors import Full, NoCondition, NoForm, NoLine, NoText, Stuck
from askround.forms.texts import read_form
from askround.tables.records import MOST_RECORDS
from askround.tables.sums import cross
from askround.words.conditions import read_condition
from askround.words.keys import is_key
from askround.words.kinds import number_in

DONE = "ok"


class Desk:
    """A sitting, at first of the empty form, and the records kept of its form."""

    def __init__(self):
        self._sitting = Sitting(())
        self._records = []

    def say(self, row):
        """The answer to a row."""
        # Only their stand-in makes line ends in what a row holds.
        if not isinstance(row, str) or "\n" in row:
            raise NoLine("no row")
        word, blank, rest = row.partition(" ")
        if not blank:
            return self._say_alone(word)
        if word in ("form", "change", "join"):
            return self._say_text(word, rest)
        if word in ("tell", "strike", "let"):
            return self._say_entry(word, rest.split(" "))
        if word == "come":
            return self._come(rest.split(" "))
        if word == "cross":
            return self._cross(rest.split(" ; "))
        raise NoLine("an unknown word")

    def _say_alone(self, word):
        """The answer to a row of one word."""
        if word == "back":
            self._sitting.back()
            return DONE
        if word == "keep":
            return self._keep()
        if word == "now":
            return self._now()
        if word == "taken":
            return self._taken()
        if word == "book":
            return book_text(self._sitting.book()).replace("\n", " / ")
        raise NoLine("an unknown word, or one that needs more behind it")

    def _say_text(self, word, text):
        """The answer to a row that holds the text of a form or of a book."""
        if word == "join":
            self._sitting.join(_book_in(_unfolded(text)))
            return DONE
        form = _form_in(_unfolded(text))
        if word == "form":
            self._sitting = Sitting(form)
        else:
            self._sitting.change(form)
        self._records = []
        return DONE

    def _say_entry(self, word, words):
        """The answer to a row that holds an entry, its deed ahead of its stamp."""
        # No line ends are put in here, so a book that is read has this entry alone.
        moment, hand, deed = _book_in(" ".join([*words[:2], word, *words[2:]]))[0]
        if word == "tell":
            self._sitting.tell(moment, hand, deed[1], deed[2])
        elif word == "strike":
            self._sitting.strike(moment, hand, deed[1])
        else:
            self._sitting.let(moment, hand, deed[1])
        return DONE

    def _keep(self):
        """Keep the answers as a record, and begin a sitting again; how many records there are."""
        if self._sitting.now() != ("end",):
            raise Stuck("the sitting isn't at its end")
        if len(self._records) == MOST_RECORDS:
            raise Full("there is no room for another record")
        self._records.append(self._sitting.answers())
        self._sitting = Sitting(self._sitting.form())
        return str(len(self._records))

    def _now(self):
        """What the sitting has come to."""
        then = self._sitting.now()
        if then == ("end",):
            return "end"
        word, (first, person) = then
        return f"{word} {first} {person}"

    def _taken(self):
        """The answers taken."""
        answers = self._sitting.answers()
        taken = read_by(self._sitting.form(), self._sitting.book())[0]
        return ", ".join([f"{key[0]} {key[1]} {told_text(answers[key])}" for key in taken]) or "-"

    def _come(self, words):
        """How many answers come to a key."""
        if len(words) != 2 or not is_key((words[0], number_in(words[1]))):
            raise NoLine("no key")
        found = come_to(self._sitting.form(), (words[0], number_in(words[1])))
        return "never" if found[0] == "never" else str(len(found[1]))

    def _cross(self, sides):
        """The cells of the records by rows and columns."""
        if len(sides) != 2:
            raise NoLine("no rows and columns")
        rows, columns = _lines_in(sides[0]), _lines_in(sides[1])
        cells = cross(self._sitting.form(), tuple(self._records), rows, columns)[0]
        return " / ".join([" ".join([_cell_text(cell) for cell in row]) for row in cells])


def _unfolded(text):
    """A text in a row with its line ends."""
    return text.replace(" / ", "\n")


def _form_in(text):
    """The form that is written as this text."""
    try:
        return read_form(text)
    except NoForm:
        raise NoLine("no form is written so") from None


def _book_in(text):
    """The book that is written as this text."""
    try:
        return read_book(text)
    except NoText:
        raise NoLine("no book is written so") from None


def _lines_in(text):
    """The conditions that are written as this text in a row."""
    try:
        return tuple([read_condition(part) for part in text.split(" / ")])
    except NoCondition:
        raise NoLine("no condition is written so") from None


def _cell_text(cell):
    """The text of a cell."""
    p, q = cell
    return str(p) if q == 1 else f"{p}/{q}"
