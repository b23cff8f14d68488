"""What several tests need: things of any kind, and ways to look at refusals."""

import copy


def nested(kind, depth):
    """A thing of one kind within itself, depth deep."""
    thing = kind()
    for _ in range(depth - 1):
        if kind is dict:
            thing = {"a": thing}
        else:
            thing = kind([thing, 1, "a"])
    return thing


def nots(depth, inner):
    """A condition within so many nots."""
    for _ in range(depth):
        inner = ("not", inner)
    return inner


def shared(depth):
    """An and of ands that is small in memory, but has six to the power of depth pieces."""
    thing = ("is", "a", "b")
    for _ in range(depth):
        thing = ("and", (thing,) * 6)
    return thing


def shared_steps(depth):
    """Parts of parts that are small in memory, but have six to the power of depth steps."""
    steps = ()
    for _ in range(depth):
        steps = (("if", ("is", "a", "b"), steps, steps),) * 6
    return steps


TOP = 10 ** 40 - 1

THINGS = [
    0, 1, -1, 4, 5, 59, 60, 10 ** 6, 10 ** 6 + 1, TOP, -TOP, True, False, None,
    "", "a", "ab", "A", "a b", "-", "+", "a+b", "0", "1", "00", "ask", "is", "not", "(", ")", "\n", " ", "~",
    "x" * 4000, "( " * 2000, "not " * 1000, "9" * 4000, "\n" * 4000,
    (), (0,), ("a",), ("a", "b"), (True,), (None,), ((),), ("a", 0), ("a", True), ("a", 1, 2), (0, 0), (0, "a", "b"),
    [], [0], ["a"], ["pick", ("a",)], [[]], [()], {}, {"a": 0}, {0: []}, {(): {}},
    ("pick",), ("pick", "a"), ("pick", ["a"]), ("pick", ()), ("pick", ("a", ["b"])), ("pick", {"a": 1}),
    ("some", None), ("some", (("a",),)), ("count", 0), ("count", True, 1), ("count", "a", "b"), ("count", [], {}),
    (["pick"], ("a",)), ({}, ("a",)), (["is"], "a", "b"), ("is", ["a"], "b"), ("is", "a", ["b"]), ("is", "a", ("b",)),
    ("has", {}, {}), ("from", "a", []), ("from", "a", True), ("to", "a", None), ("not",), ("not", []), ("not", None),
    ("and", []), ("and", ()), ("and", [("is", "a", "b"), ("is", "a", "b")]), ("or", {}), ("or", ([], [])),
    ("any", "a"), ("any", [], ("is", "a", "b")), ("every", "a", []), ("every", {}, {}),
    (("ask",),), (("ask", "a"),), (("ask", "a", []),), (("ask", [], ("pick", ("a",))),), (["ask", "a", ("pick", ("a",))],),
    (("if",),), (("if", [], (), ()),), (("if", ("is", "a", "b"), [], ()),), (("part", "a"),), (("part", {}, ()),),
    (("part", "a", []),), (("part", "a", None),), (("leave", [], []),), (("each", [], [], []),), (("each", "a", {}, ()),),
    (("hard",),), (("hard", {}),), (("soft", []),), ((["ask"], "a", "b"),), (({}, "a"),), ((None, None, None),),
    (0, "a", ()), ((0, "a", ("tell",)),), ((0, "a", ("tell", [], [])),), ((0, "a", ("strike", ["a", 0])),),
    ((0, "a", ("let", [])),), ((0, "a", ["let", (0, 0)]),), ((0, "a", ("let", (0, {}))),), ([0, "a", ("let", (0, 0))],),
    (({}, [], ()),), ((0, "a", (["tell"], ("a", 0), "b")),), ((0, "a", ({}, {})),), ((0, "a", ("tell", ("a", 0), {})),),
    nested(tuple, 30), nested(list, 30), nested(dict, 30), nots(28, ("is", "a", "b")), nots(29, ()),
    shared(14), shared_steps(14), [shared(13)], {"a": shared(13)},
    tuple(range(1000)), ("and", (("is", "a", "b"),) * 1000), ("pick", ("a",) * 1000), (("hard", ("is", "a", "b")),) * 1000,
]


def small(thing, room=10):
    """Whether a thing is small enough to be copied and compared in full."""
    if room == 0:
        return False
    if isinstance(thing, dict):
        return all(small(value, room - 1) for value in thing.values())
    return not isinstance(thing, (tuple, list)) or all(small(part, room - 1) for part in thing)


def alike(one, other):
    """Whether two things are alike at every depth, truths and numbers kept apart."""
    if type(one) is not type(other):
        return False
    if isinstance(one, dict):
        return alike(list(one), list(other)) and alike(list(one.values()), list(other.values()))
    if isinstance(one, (tuple, list)):
        return len(one) == len(other) and all(alike(a, b) for a, b in zip(one, other))
    return one == other


def refuse(case, error, call, *told, **named):
    """Look that a call is refused with just this error, and changes nothing; tell the error."""
    kept = [copy.deepcopy(thing) if small(thing) else None for thing in told]
    try:
        found = call(*told, **named)
    except Exception as raised:
        case.assertIs(type(raised), error, (call, raised))
        for before, after in zip(kept, told):
            if small(after):
                case.assertTrue(alike(before, after))
        return raised
    case.fail(f"{call} told {found!r} of {told!r:.200}")


def refuse_form(case, row, call, *told, **named):
    """Look that a call is refused with NoForm of this row."""
    from askround.errors import NoForm
    case.assertEqual(refuse(case, NoForm, call, *told, **named).row, row)


def answer_truth(case, call, *told):
    """Look that a call tells a truth and changes nothing; tell it."""
    kept = [copy.deepcopy(thing) if small(thing) else None for thing in told]
    found = call(*told)
    case.assertIs(type(found), bool, told)
    for before, after in zip(kept, told):
        if small(after):
            case.assertTrue(alike(before, after))
    return found
