"""Things bent at one place, by chance, for tests of what is told of anything."""

OTHERS = (0, 1, -1, 2, True, False, None, "", "x", "y", (), [], {}, ("a", 0), (0, ()), "never", "answers", 10 ** 40 - 1)


def bent(chance, thing):
    """The thing, another one at one place."""
    if isinstance(thing, (tuple, list)) and thing and chance.random() < 0.8:
        at = chance.randrange(len(thing))
        return type(thing)([*thing[:at], bent(chance, thing[at]), *thing[at + 1:]])
    if isinstance(thing, dict) and thing and chance.random() < 0.8:
        key = chance.choice(list(thing))
        if chance.random() < 0.7:
            return {one: bent(chance, thing[one]) if one == key else thing[one] for one in thing}
        other = bent_key(chance, key)
        return {other if one == key else one: thing[one] for one in thing}
    return other_of(chance, thing)


def bent_key(chance, key):
    return chance.choice(((key[0], key[1] + 1), (key[0], bool(key[1])), (key[0], str(key[1])), ("zz", 0), key[0], 0))


def other_of(chance, thing):
    """Something else than a thing, close to it."""
    word = chance.choice(("other", "less", "twice", "turned", "kind", "close", "close"))
    if word == "close" and type(thing) is int:
        return chance.choice((thing + 1, thing - 1, bool(thing), str(thing), -1))
    if isinstance(thing, (tuple, list)) and thing:
        at, behind = chance.randrange(len(thing)), chance.randrange(len(thing) + 1)
        if word in ("less", "close"):
            return type(thing)([*thing[:at], *thing[at + 1:]])
        if word == "twice":
            return type(thing)([*thing[:behind], thing[at], *thing[behind:]])
        if word == "turned":
            return type(thing)(reversed(thing))
        if word == "kind":
            return list(thing) if type(thing) is tuple else tuple(thing)
    return chance.choice(OTHERS)
