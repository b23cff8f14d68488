"""Books as texts, a row for each entry."""

from askround.book.entries import by_stamps, check_book, is_book
from askround.errors import NoText
from askround.words.kinds import number_in


def book_text(book):
    """The text that a book is written as."""
    check_book(book)
    return "\n".join([_row_of(entry) for entry in by_stamps(book)])


def _row_of(entry):
    """The row that an entry is written as."""
    moment, hand, deed = entry
    first, person = deed[1]
    row = f"{moment} {hand} {deed[0]} {first} {person}"
    return f"{row} {told_text(deed[2])}" if deed[0] == "tell" else row


def told_text(value):
    """The text of a value that is told, whatever its kind."""
    if isinstance(value, tuple):
        return "".join([f"+{option}" for option in value]) or "+"
    return str(value)


def read_book(text):
    """The book that is written as this text."""
    if not isinstance(text, str):
        raise NoText("a book is read from a text")
    book = tuple([_entry_in(row) for row in text.split("\n")]) if text else ()
    if not is_book(book) or book != by_stamps(book):
        raise NoText("no book is written so")
    return book


def _entry_in(row):
    """What a row is, read as an entry; None where it has the words of none."""
    words = row.split(" ")
    if len(words) not in (5, 6):
        return None
    moment, hand, deed, first, person = words[:5]
    if len(words) == 6:
        found = (deed, (first, number_in(person)), _told_in(words[5])) if deed == "tell" else None
    else:
        found = (deed, (number_in(first) if deed == "let" else first, number_in(person)))
    return (number_in(moment), hand, found)


def _told_in(word):
    """What a word is, read as a value that is told."""
    if word == "+":
        return ()
    if word[:1] == "+":
        return tuple(word[1:].split("+"))
    number = number_in(word)
    return word if number is None else number
