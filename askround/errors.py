"""The refusals of Askround."""


class AskError(ValueError):
    """Any refusal."""


class NoKind(AskError):
    """What should be a kind is none."""


class NoValue(AskError):
    """What should be a value of a kind is none."""


class NoCondition(AskError):
    """What should be a condition is none."""


class NoKey(AskError):
    """What should be a key of a form is none."""


class TooWide(AskError):
    """A form is too wide."""


class Stuck(AskError):
    """Nothing is there that could be done so."""


class NoBook(AskError):
    """What should be a book is none."""


class Clash(AskError):
    """Unlike entries have one stamp."""


class Full(AskError):
    """There is no room for more."""


class NoNames(AskError):
    """What should be pairs of names is none."""


class NoEntry(AskError):
    """What should be an entry's moment or hand is none."""


class NoCheck(AskError):
    """What should be a soft check of a form is none."""


class Twice(AskError):
    """A stamp stands already."""


class NoLines(AskError):
    """What should be lines is none."""


class NoRound(AskError):
    """What should be a round of a form is none."""


class NoWeights(AskError):
    """What should be weights is none."""


class NoTable(AskError):
    """What should be a table is none."""


class NoFits(AskError):
    """What should be fits is none."""


class NoTotals(AskError):
    """What should be totals is none."""


class NoCounts(AskError):
    """What should be counts is none."""


class NoPlaces(AskError):
    """What should be hidden places is none."""


class NoPlace(AskError):
    """What should be a hidden place is none."""


class NoText(AskError):
    """What should be the text of a book is none."""


class NoLine(AskError):
    """What should be a line for a desk is none."""


class NoForm(AskError):
    """What should be a form is none; row is the first that can't stand, -1 of what is no text."""

    def __init__(self, row):
        super().__init__(f"no form: row {row} can't stand")
        self.row = row


class CannotGo(AskError):
    """The answer of key can't go to the other form."""

    def __init__(self, key):
        super().__init__(f"the answer of {key} can't go")
        self.key = key


class NoRecord(AskError):
    """What should be records is none; number is the first that is none, -1 of them all."""

    def __init__(self, number):
        super().__init__(f"no record: number {number}")
        self.number = number


class NoFit(AskError):
    """The record of this number doesn't fit just one row and one column."""

    def __init__(self, number):
        super().__init__(f"no fit: record {number}")
        self.number = number
