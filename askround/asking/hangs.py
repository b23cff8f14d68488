"""What keys hang on others: asked, or not, as the other's answer goes."""

from askround.asking.plain import read
from askround.asking.walks import walk_of
from askround.words.keys import check_key, is_key
from askround.words.kinds import is_value


def hangs_on(form, key):
    """All keys that hang on a key, rising."""
    walk = walk_of(form)
    check_key(walk.asked, key)
    hanging = {}
    for whole in _wholes_but(walk, key):
        runs = _runs_by(walk, whole, key)
        asked = {}
        for run in runs:
            for one in run:
                asked[one] = asked.get(one, 0) + 1
        for one in asked:
            if asked[one] < len(runs):
                hanging[one] = True
    return tuple(sorted(hanging))


def hang_pair(form, key, other):
    """Whole answers, and another value of the other key, by just one of both of which a key is asked; None without."""
    walk = walk_of(form)
    check_key(walk.asked, key)
    check_key(walk.asked, other)
    for whole in _wholes_but(walk, other):
        asked = [key in run for run in _runs_by(walk, whole, other)]
        if True in asked and False in asked:
            answers = {one: _value_at(walk, one, whole.get(one, 0)) for one in walk.asked}
            answers[other] = _value_at(walk, other, asked.index(True))
            return answers, _value_at(walk, other, asked.index(False))
    return None


def shows_hang(form, key, other, thing):
    """Whether a thing shows that a key hangs on another one."""
    walk = walk_of(form)
    check_key(walk.asked, key)
    check_key(walk.asked, other)
    if not isinstance(thing, tuple) or len(thing) != 2:
        return False
    answers, value = thing
    if not _are_whole(walk, answers) or not is_value(walk.sieves[other].kind, value):
        return False
    turned = {one: value if one == other else answers[one] for one in answers}
    return (key in read(form, answers, None, True)[0]) != (key in read(form, turned, None, True)[0])


def _wholes_but(walk, key):
    """All whole answers but for a key, told as dicts of class numbers without those that can be 0 alone."""
    wholes = [{}]
    for one in walk.asked:
        many = len(walk.sieves[one].classes)
        if one != key and many > 1:
            wholes = [{**whole, one: number} for whole in wholes for number in range(many)]
    return wholes


def _runs_by(walk, whole, key):
    """The keys asked by whole answers, for each class of a key that they don't have."""
    return [walk.asked_by({**whole, key: number}) for number in range(len(walk.sieves[key].classes))]


def _value_at(walk, key, number):
    """The first value of a class of a key."""
    return walk.sieves[key].classes[number][0]


def _are_whole(walk, thing):
    """Whether a thing is a dict with a value for just each key."""
    if not isinstance(thing, dict) or len(thing) != len(walk.asked):
        return False
    return all([is_key(key) and key in walk.asked and is_value(walk.sieves[key].kind, thing[key]) for key in thing])
