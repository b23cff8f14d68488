"""Things bent at one place, by chance, for tests of what is told of anything."""

OTHERS = (0, 1, -1, 2, True, False, None, "", "x", "y", (), [], {}, ("a", 0), (0, ()), "never", "answers", 10 ** 40 - 1)


def bent(chance, thing):
    """The thing, another one at one place."""
    if isinstance(thing, (tuple, list)) and thing and chance.random() < 0.8:
        at = chance.randrange(len(thing))
        return type(thing)([*thing[:at], bent(chance, thing[at]), *thing[at + 1:]])
    if isinstance(thing, dict) and thing and chance.random() < 0.8:
        key = chance.choice(list(thing))
        if chance.random() < 0.7:
            return {one: bent(chance, thing[one]) if one == key else thing[one] for one in thing}
        other = bent_key(chance, key)
        return {other if one == key else one: thing[one] for one in thing}
    return other_of(chance, thing)


def bent_key(chance, key):
    return chance.choice(((key[0], key[1] + 1), (key[0], bool(key[1])), (key[0], str(key[1])), ("zz", 0), key[0], 0))


def other_of(chance, thing):
    """Something else than a thing, close to it."""
    word = chance.choice(("other", "less", "twice", "turned", "kind", "close", "close"))
    if word == "close" and type(thing) is int:
        return chance.choice((thing + 1, thing - 1, bool(thing), str(thing), -1))
    if isinstance(thing, (tuple, list)) and thing:
        at, behind = chance.randrange(len(thing)), chance.randrange(len(thing) + 1)
        if word in ("less", "close"):
            return type(thing)([*thing[:at], *thing[at + 1:]])
        if word == "twice":
            return type(thing)([*thing[:behind], thing[at], *thing[behind:]])
        if word == "turned":
            return type(thing)(reversed(thing))
        if word == "kind":
            return list(thing) if type(thing) is tuple else tuple(thing)
    return chance.choice(OTHERS)


def broken_layers(layers, first):
    """What is no two layers, of these two, that show anything; first is the first node with a truth in it."""
    one, two = layers
    return [
        layers[:1], layers[1:], layers + layers[:1], layers[::-1], list(layers), (), None, (one, list(two)), (one, two[1:]), (one, two[:1]), (one, two[::-1]), (one, two * 2), ((), two), (one, ()),
        (one, None), (None, two), (one[0], two[0]), ((first,), two), ((None,), two), (one, (None, *two)), (list(one), two), {0: one, 1: two},
    ]


def with_node(chance, told, more):
    """What is told, with a node more in the table or in a layer, whether that shows as much or not."""
    if len(told) == 2:
        return (told[0], tuple(sorted({*told[1], more})))
    if not told[2]:
        return told
    at = chance.randrange(len(told[2]))
    return (*told[:2], (*told[2][:at], tuple(sorted({*told[2][at], more})), *told[2][at + 1:]))
