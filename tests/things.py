"""Things of every kind that are no fraction, no web, no leap and no leaps, each with a name to tell it by."""

DEEPEST = 3000


def deep_tuple(depth=DEEPEST):
    thing = ()
    for _ in range(depth):
        thing = (thing,)
    return thing


def deep_pair(depth=DEEPEST):
    thing = (1, 2)
    for _ in range(depth):
        thing = (thing, 1)
    return thing


def deep_list(depth=DEEPEST):
    thing = []
    for _ in range(depth):
        thing = [thing]
    return thing


def deep_dict(depth=DEEPEST):
    thing = {}
    for _ in range(depth):
        thing = {"a": thing}
    return thing


def round_list():
    thing = []
    thing.append(thing)
    return thing


def deep_things():
    return [
        ("deep tuple", deep_tuple()),
        ("deep pair", deep_pair()),
        ("deep list", deep_list()),
        ("deep dict", deep_dict()),
        ("list in itself", round_list()),
    ]


def no_wholes():
    return [
        ("True", True),
        ("False", False),
        ("None", None),
        ("text", "1"),
        ("empty text", ""),
        ("list", [1]),
        ("tuple", (1,)),
        ("dict", {1: 2}),
        ("set", {1, 2}),
        ("bytes", b"1"),
        ("object", object()),
        ("class", int),
        ("function", len),
    ] + deep_things()


def odd_things():
    return no_wholes() + [
        ("0", 0),
        ("1", 1),
        ("70 figures", 10 ** 70 - 1),
        ("below 0", -(10 ** 70 - 1)),
        ("empty tuple", ()),
        ("empty list", []),
        ("two letters", "ab"),
        ("two lines", "1\n2"),
        ("3,000 signs", "~" * 3000),
        ("long tuple", (1,) * 100000),
        ("tuple of texts", ("1", "2")),
        ("tuple of None", (None, None)),
        ("tuple of empty tuples", ((), ())),
        ("range", range(2)),
    ]
