"""Forms said otherwise, by chance: ways that ask the same, and ways that may not."""

from askround.forms.trees import is_form


def same(chance, steps, condition):
    """The steps, at some places said otherwise but asking the same."""
    return tuple(same_step(chance, step, condition) for step in steps)


def same_step(chance, step, condition):
    word = step[0]
    if word == "if":
        first, second = same(chance, step[2], condition), same(chance, step[3], condition)
        asked = condition(chance, step[1])
        if chance.random() < 0.4:
            return ("if", ("not", asked), second, first)
        return ("if", asked, first, second)
    if word in ("part", "each"):
        return (*step[:-1], same(chance, step[-1], condition))
    if word in ("hard", "soft", "leave"):
        return (*step[:-1], condition(chance, step[-1]))
    return step


def like_condition(chance, condition):
    """A condition that holds as this one does."""
    word = condition[0]
    if word in ("and", "or"):
        parts = [like_condition(chance, part) for part in condition[1]]
        condition = (word, tuple(chance.sample(parts, len(parts))))
        if chance.random() < 0.3:
            condition = ("not", ("or" if word == "and" else "and", tuple(("not", part) for part in condition[1])))
    elif word in ("any", "every"):
        condition = (*condition[:2], like_condition(chance, condition[2]))
        if chance.random() < 0.3:
            condition = ("not", ("every" if word == "any" else "any", condition[1], ("not", condition[2])))
    elif word == "not":
        condition = ("not", like_condition(chance, condition[1]))
    return ("not", ("not", condition)) if chance.random() < 0.15 else condition


def other_condition(chance, condition):
    """A condition that often doesn't hold as this one does."""
    word = condition[0]
    if chance.random() < 0.3:
        return ("not", condition)
    if word in ("and", "or"):
        return ("or" if chance.random() < 0.5 else word, tuple(other_condition(chance, part) for part in condition[1]))
    if word in ("any", "every"):
        return (chance.choice(("any", "every")), *condition[1:])
    if word == "not":
        return ("not", other_condition(chance, condition[1]))
    if word in ("from", "to"):
        return (word, condition[1], max(0, condition[2] + chance.choice((-1, 1))))
    return condition


def keep(chance, condition):
    return condition


def parted_into(chance, steps):
    """The steps, some of them in a part."""
    at = chance.randrange(len(steps) + 1)
    behind = chance.randrange(at, len(steps) + 1)
    return (*steps[:at], ("part", "zpart", steps[at:behind]), *steps[behind:])


def changed(chance, steps):
    """The steps, changed at one place on top: one less, another word, kind or condition."""
    at = chance.randrange(len(steps))
    step = steps[at]
    word = chance.choice(("less", "word", "kind", "more", "condition"))
    other = step
    if word == "word" and step[0] in ("hard", "soft"):
        other = ("soft" if step[0] == "hard" else "hard", step[1])
    if word == "kind" and step[0] == "ask" and step[2][0] == "count":
        other = (*step[:2], ("count", step[2][1], step[2][2] + 1))
    if word == "condition" and step[0] in ("if", "hard", "soft"):
        other = (step[0], other_condition(chance, step[1]), *step[2:])
    if word == "more":
        return (*steps[:at], ("ask", "zmore", ("pick", ("x",))), *steps[at:])
    if word == "less":
        return (*steps[:at], *steps[at + 1:])
    return (*steps[:at], other, *steps[at + 1:])


def other_form(chance, steps):
    """A form close to this one, and whether it surely asks the same."""
    while True:
        found = same(chance, steps, chance.choice((like_condition, keep)))
        if chance.random() < 0.4:
            found = parted_into(chance, found)
        surely = chance.random() < 0.4
        if not surely:
            found = changed(chance, found) if chance.random() < 0.5 else same(chance, found, other_condition)
        if is_form(found):
            return found, surely
