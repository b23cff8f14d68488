"""How a key is come to, with fewest answers, or that it is never asked."""

from askround.asking.layers import all_in, are_layers, first_layer, layer_behind, told_layers, way_to
from askround.asking.plain import read
from askround.asking.states import asks_never, is_shut_by
from askround.asking.walks import walk_of
from askround.words.keys import check_key, is_key


def come_to(form, key):
    """How a key is come to: ("answers", answers, layers), or ("never", table)."""
    walk = walk_of(form)
    check_key(walk.asked, key)
    layers = []
    layer = first_layer(walk)
    while layer:
        found = [state for state in layer if state[0] == walk.asked[key]]
        if found:
            return ("answers", way_to([*layers, layer], found[0]), told_layers(layers))
        layers.append(layer)
        layer = layer_behind(walk, layer)
    return ("never", all_in(layers))


def shows_come(form, key, thing):
    """Whether a thing shows how a key is come to, or that it is never asked."""
    walk = walk_of(form)
    check_key(walk.asked, key)
    if not isinstance(thing, tuple) or len(thing) not in (2, 3):
        return False
    if len(thing) == 2:
        return thing[0] == "never" and is_shut_by(walk, key, thing[1])
    word, answers, layers = thing
    if word != "answers" or not _come_by(form, key, answers) or not are_layers(walk, layers, len(answers)):
        return False
    return all([asks_never(walk, key, layer) for layer in layers])


def _come_by(form, key, answers):
    """Whether a form is read to a key by a thing, answers (key, value) that are just those taken, in order."""
    if not are_answers(answers):
        return False
    got, _, then = read(form, {one: value for one, value in answers}, None, True)
    return got == tuple([one for one, _ in answers]) and then == ("ask", key)


def are_answers(thing):
    """Whether a thing is a tuple of pairs, a key first."""
    if not isinstance(thing, tuple):
        return False
    return all([isinstance(pair, tuple) and len(pair) == 2 and is_key(pair[0]) for pair in thing])
