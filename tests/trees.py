"""Trees built from rows without any check, so that broken rules can be handed in, too."""


def kind_of_words(words):
    if words[0] == "count":
        return ("count", int(words[1]), int(words[2]))
    return (words[0], tuple(words[1:]))


def condition_of_words(words):
    """The condition that these words begin with, and the words behind it."""
    if words[0] == "not":
        inner, rest = condition_of_words(words[1:])
        return ("not", inner), rest
    if words[0] in ("any", "every"):
        inner, rest = condition_of_words(words[2:])
        return (words[0], words[1], inner), rest
    if words[0] == "(":
        parts, joint, rest = [], "", ["", *words[1:]]
        while rest[0] != ")":
            joint = rest[0] or joint
            part, rest = condition_of_words(rest[1:])
            parts.append(part)
        return (joint, tuple(parts)), rest[1:]
    wanted = int(words[2]) if words[1] in ("from", "to") else words[2]
    return (words[1], words[0], wanted), words[3:]


def condition(text):
    return condition_of_words(text.split(" "))[0]


def tree(text):
    """The steps that are written in these rows; None where they can't be laid out."""
    rows = text.split("\n") if text else []
    try:
        steps, rest = steps_of_rows(rows)
    except (IndexError, ValueError, KeyError):
        return None
    return None if rest else steps


def steps_of_rows(rows):
    steps = []
    while rows and rows[0] not in ("end", "else"):
        words = rows[0].split(" ")
        rows = rows[1:]
        if words[0] in ("if", "part", "each"):
            inner, rows = steps_of_rows(rows)
            second = ()
            if rows[0] == "else":
                second, rows = steps_of_rows(rows[1:])
                if second == () or words[0] != "if":
                    raise ValueError("no such else")
            if rows[0] != "end":
                raise ValueError("not ended")
            rows = rows[1:]
            head = ("if", condition(" ".join(words[1:]))) if words[0] == "if" else tuple(words)
            steps.append((*head, inner, second) if words[0] == "if" else (*head, inner))
        else:
            steps.append(single_step(words))
    return tuple(steps), rows


def single_step(words):
    if words[0] == "ask":
        return ("ask", words[1], kind_of_words(words[2:]))
    if words[0] == "leave":
        return ("leave", words[1], condition(" ".join(words[2:])))
    if words[0] in ("hard", "soft"):
        return (words[0], condition(" ".join(words[1:])))
    raise ValueError(words[0])


def form(text):
    """The form that is written in rows with slashes between."""
    return tree("\n".join(text.split(" / ")) if text else "")
