"""Plans and houses for the tests, and ways to spoil a thing."""

ZONES = (("back", "inner"), ("d", "day"), ("hall", "way"), ("win", "once"))
CODES = (
    ("0000", "ann", ("set", "shunt", "unset"), 0),
    ("0420", "bob", ("set",), 9),
    ("9999", "cy", (), 1),
)
TIMES = (30, 20, 120)
PLAN = (ZONES, CODES, TIMES)

HOUSE = (4, ((0, 1, "hall"), (0, 2, None), (1, 2, None), (1, 2, "back"), (2, 3, "hall")))

EVENTS = (
    ("line", "back", "shut"),
    ("line", "d", "open"),
    ("line", "win", "cut"),
    ("code", "0000", "set", None),
    ("code", "1234", "unset", None),
    ("code", "0420", "shunt", "hall"),
    ("code", "9999", "free", "win"),
    ("ticks", 1),
    ("ticks", 10**200),
)


def nested(inmost, wrap, deep):
    thing = inmost
    for _ in range(deep):
        thing = wrap([thing])
    return thing


# None of these is a plan, a house or an event, nor any part of a plan.
STRAY_THINGS = (
    True, False, -1, -(10**30), 10**30, "", " ", "~", "A", "abcde", "a1", "a b", "a\n", "\u00e4", "\u0661" * 4,
    "00000", "000", "12a4", "Set", "closed", [], [()], [[]], ((),), (None,), (True, False), ("set", 1), (1, "set"),
    ["set"], ("unset", "set"), ("set", "set"), ("set", None), ("set", ["shunt"]), ((), [], "a", 1, None),
    nested(1, list, 8), nested("a", tuple, 8), nested(None, tuple, 9), nested((), list, 9),
)


def paths(thing):
    """All places in a thing of tuples, the whole first, each a tuple of indexes."""
    found = [()]
    if isinstance(thing, tuple):
        for k, part in enumerate(thing):
            found.extend((k,) + path for path in paths(part))
    return found


def part_at(thing, path):
    for k in path:
        thing = thing[k]
    return thing


def put(thing, path, new):
    """The thing with another part at a place."""
    if path == ():
        return new
    k = path[0]
    return thing[:k] + (put(thing[k], path[1:], new),) + thing[k + 1:]


def tuple_paths(thing):
    return [path for path in paths(thing) if isinstance(part_at(thing, path), tuple)]


def as_lists(thing):
    if isinstance(thing, tuple):
        return [as_lists(part) for part in thing]
    return thing


def with_lists(thing):
    """The thing once for each of its tuples, with a list in that one's place; and with lists throughout."""
    return [put(thing, path, list(part_at(thing, path))) for path in tuple_paths(thing)] + [as_lists(thing)]


def other_lengths(part):
    """A tuple one longer, in front and behind, and one shorter, in front and behind."""
    return (part + (part[-1],), (part[0],) + part, part + (None,), part[:-1], part[1:])


# For what happens: a zone of each kind, and a second way, by which one came already where mode is coming.
WATCHED = (
    (("d", "day"), ("gate", "way"), ("in", "way"), ("room", "inner"), ("win", "once")),
    (
        ("0000", "ann", ("set", "shunt", "unset"), 0),
        ("1111", "bob", ("set",), 9),
        ("2222", "cy", ("unset",), 1),
        ("3333", "di", ("shunt",), 0),
        ("4444", "ed", (), 0),
    ),
    (30, 20, 120),
)
MODES = ("off", "leaving", "on", "coming")
LINES = ("shut", "open", "cut")


def with_times(plan, leave, come, loud):
    return plan[:2] + ((leave, come, loud),)


def state_in(mode, lines=None, shunts=(), siren=0, alarms=(), tries=0, locked=0, used=(0, 0, 0, 0, 0)):
    """A state of WATCHED in a mode, lines being a dict of those that are not shut."""
    left = {"leaving": 30, "coming": 20}.get(mode, 0)
    names = [zone[0] for zone in WATCHED[0]]
    told = tuple((lines or {}).get(name, "shut") for name in names)
    return (mode, left, "gate" if mode == "coming" else None, told, shunts, siren, alarms, tries, locked, used)
