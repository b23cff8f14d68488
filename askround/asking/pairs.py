"""Two forms: alike, or parted by fewest answers."""

from askround.asking.classes import Sieve, check_width, pieces_about
from askround.asking.comes import are_answers
from askround.asking.layers import all_in, are_layers, first_layer, is_table_by, layer_behind, told_layers, way_to
from askround.asking.made import kinds_asked, made
from askround.asking.walks import Walk
from askround.words.kinds import is_value

# What comes behind answers that part two forms, in the place of a pair.
APART = ()


def two_forms(one, other):
    """Whether two forms are alike: ("alike", pairs), or ("parted", answers, layers)."""
    pairs = _pairs_of(one, other)
    layers = []
    layer = first_layer(pairs)
    while layer:
        if APART in layer:
            return ("parted", way_to([*layers, layer], APART), told_layers(layers))
        layers.append(layer)
        layer = layer_behind(pairs, layer)
    return ("alike", all_in(layers))


def shows_two(one, other, thing):
    """Whether a thing shows that two forms are alike, or parted."""
    pairs = _pairs_of(one, other)
    if not isinstance(thing, tuple) or len(thing) not in (2, 3):
        return False
    if len(thing) == 2:
        return thing[0] == "alike" and is_table_by(pairs, thing[1])
    word, answers, layers = thing
    return word == "parted" and pairs.part_by(answers) and are_layers(pairs, layers, len(answers))


def _pairs_of(one, other):
    """The pairs of two forms; forms too wide together are refused."""
    rows, other_rows = made(one), made(other)
    sieves = _joint_sieves(rows, other_rows)
    check_width(sieves)
    return Pairs(Walk(rows, sieves), Walk(other_rows, sieves))


def _joint_sieves(rows, other_rows):
    """A dict from the keys, of one kind in both, to sieves by the pieces of both."""
    kinds, other_kinds = kinds_asked(rows), kinds_asked(other_rows)
    pieces, other_pieces = pieces_about(rows), pieces_about(other_rows)
    return {
        key: Sieve(kinds[key], pieces[key] + other_pieces[key])
        for key in kinds if key in other_kinds and other_kinds[key] == kinds[key]
    }


class Pairs:
    """Two walks, by the same sieves, gone through together."""

    def __init__(self, one, other):
        self.one = one
        self.other = other

    def could_be(self, thing):
        """Whether a thing is a pair, come to or not."""
        if not isinstance(thing, tuple) or not self.one.could_be(thing[:2]) or not self.other.could_be(thing[2:]):
            return False
        return self.one.rows[thing[0]] == self.other.rows[thing[2]]

    def start(self):
        """The first pair; None where nothing is asked, APART where both look unlike at once."""
        return _paired(self.one.first_stop(), self.other.first_stop())

    def leads(self, pair):
        """What comes behind a pair, each as ((key, value), pair), APART where both look unlike."""
        key = self.one.rows[pair[0]][1]
        values = [value for value, _ in self.one.sieves[key].classes]
        nodes = self.behind_all(pair, list(range(len(values))))
        return [((key, value), node) for value, node in zip(values, nodes) if node is not None]

    def behind_all(self, pair, numbers):
        """What comes behind a pair and each of these classes: a pair, None or APART."""
        stops = self.one.stops(pair[:2], numbers)
        others = self.other.stops(pair[2:], numbers)
        return [_paired(stop, other) for stop, other in zip(stops, others)]

    def part_by(self, answers):
        """Whether both look alike ahead of each of a thing's answers, to what both ask, and unlike behind the last."""
        if not are_answers(answers):
            return False
        node = self.start()
        for key, value in answers:
            if node is None or node == APART or not self.takes(node, key, value):
                return False
            node = self.behind_all(node, [self.one.sieves[key].place_of(value)])[0]
        return node == APART

    def takes(self, pair, key, value):
        """Whether a pair asks a key, and this is a value of it."""
        row = self.one.rows[pair[0]]
        return row[1] == key and is_value(row[2], value)


def _paired(stop, other):
    """The pair of two stops; None where neither asks, APART where they look unlike."""
    if _look_of(stop) != _look_of(other):
        return APART
    return None if stop[2] is None else (*stop[2], *other[2])


def _look_of(stop):
    """What is looked at of a stop: how many softs, and the key and the kind, or the word of a hard, an end."""
    softs, row, _ = stop
    return (softs, row if row[0] == "ask" else row[0])
