"""States of a form, and tables of them."""

from askround.asking.layers import is_table_by, table_by
from askround.asking.walks import walk_of
from askround.errors import NoKey
from askround.words.keys import check_key


def live_at(form, row):
    """The keys live at an ask row, rising."""
    walk = walk_of(form)
    if not walk.asks_at(row):
        raise NoKey("no ask row")
    return tuple(walk.live(row)[0])


def first_state(form):
    """The state that no answers come to; None where nothing is asked."""
    return walk_of(form).start()


def behind(form, state, number):
    """The state behind a state and a class of its key; None where the form ends or a hard doesn't hold."""
    return walk_of(form).stops(state, [number])[0][2]


def table_of(form):
    """The least table of a form."""
    return table_by(walk_of(form))


def is_table(form, thing):
    """Whether a thing is a table of a form."""
    return is_table_by(walk_of(form), thing)


def is_shut(form, key, thing):
    """Whether a thing is a table of a form that is shut for a key."""
    walk = walk_of(form)
    check_key(walk.asked, key)
    return is_shut_by(walk, key, thing)


def is_shut_by(walk, key, thing):
    """Whether a thing is a table of the walk's form that is shut for a key."""
    return is_table_by(walk, thing) and asks_never(walk, key, thing)


def asks_never(walk, key, states):
    """Whether none of these states asks a key."""
    return all([state[0] != walk.asked[key] for state in states])
