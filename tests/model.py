"""DOC.md told over again, slowly and tick by tick, nothing like the program: what the program tells is held to it."""

import itertools
import random

from doorwatch.plans import begun

FIELDS = ("mode", "left", "came", "lines", "shunts", "siren", "alarms", "tries", "locked", "used")
DEEDS = ("set", "unset", "shunt", "free")
NAMES = ("a", "b", "bb", "c", "hall", "x", "y", "z")


def with_fields(state, **changes):
    """The state with other values at the fields told."""
    return tuple(changes.get(name, value) for name, value in zip(FIELDS, state))


def field(state, name):
    return state[FIELDS.index(name)]


def raise_alarm(plan, s, out, name):
    s["siren"] = plan[2][2]
    if name not in s["alarms"]:
        s["alarms"] += (name,)
        out.append(("alarm", name))


def turn_on(plan, s, out):
    s["mode"] = "on"
    out.append(("on", None))
    for (name, kind), line in zip(plan[0], s["lines"]):
        if line != "shut" and name not in s["shunts"] and kind in ("way", "inner"):
            raise_alarm(plan, s, out, name)


def one_tick(plan, s, out):
    if s["locked"] > 0:
        s["locked"] -= 1
    if s["siren"] > 0:
        s["siren"] -= 1
    if s["mode"] in ("leaving", "coming"):
        s["left"] -= 1
        if s["left"] == 0:
            if s["mode"] == "leaving":
                turn_on(plan, s, out)
            else:
                s["mode"] = "on"
                raise_alarm(plan, s, out, s["came"])
                s["came"] = None


def do_line(plan, s, out, name, what):
    place = [zone[0] for zone in plan[0]].index(name)
    kind, before = plan[0][place][1], s["lines"][place]
    if before == what:
        return
    s["lines"] = s["lines"][:place] + (what,) + s["lines"][place + 1:]
    if what == "shut":
        if before == "cut":
            out.append(("mended", name))
        return
    if name in s["shunts"]:
        return
    if kind == "day":
        raise_alarm(plan, s, out, name)
    elif s["mode"] == "off":
        if what == "cut":
            out.append(("fault", name))
    elif what == "cut":
        raise_alarm(plan, s, out, name)
    elif s["mode"] == "on" and kind == "way" and plan[2][1] > 0:
        s.update(mode="coming", left=plan[2][1], came=name)
        out.append(("coming", name))
    elif s["mode"] == "on" or kind == "once":
        raise_alarm(plan, s, out, name)


def refusal(plan, s, code, deed, name):
    who, rights = code[1], code[2]
    if {"free": "shunt"}.get(deed, deed) not in rights:
        return ("denied", who)
    off, shunted = s["mode"] == "off", name in s["shunts"]
    if deed == "set" and not off:
        return ("no", who)
    if deed == "shunt" and (not off or dict(plan[0])[name] == "day" or shunted):
        return ("no", who)
    if deed == "free" and (not off or not shunted):
        return ("no", who)
    if deed == "set":
        for (zone, kind), line in zip(plan[0], s["lines"]):
            if kind in ("once", "day") and line != "shut" and zone not in s["shunts"]:
                return ("open", zone)
    return None


def do_deed(plan, s, out, who, deed, name):
    if deed == "set":
        s.update(alarms=(), siren=0, mode="leaving", left=plan[2][0])
        out.append(("set", who))
        if plan[2][0] == 0:
            turn_on(plan, s, out)
    elif deed == "unset":
        s.update(mode="off", left=0, siren=0, came=None, shunts=())
        out.append(("unset", who))
    else:
        others = set(s["shunts"]) - {name}
        s["shunts"] = tuple(sorted(others | {name} if deed == "shunt" else others))
        out.append((deed, name))


def do_code(plan, s, out, figures, deed, name):
    if s["locked"] > 0:
        out.append(("locked", None))
        return
    places = [k for k, code in enumerate(plan[1]) if code[0] == figures]
    if not places or 0 < plan[1][places[0]][3] <= s["used"][places[0]]:
        out.append(("wrong", None))
        s["tries"] += 1
        if s["tries"] == 3:
            s.update(tries=0, locked=90, siren=plan[2][2])
            out.append(("attack", None))
        return
    s["tries"] = 0
    code = plan[1][places[0]]
    against = refusal(plan, s, code, deed, name)
    if against:
        out.append(against)
        return
    s["used"] = tuple(many + (k == places[0]) for k, many in enumerate(s["used"]))
    do_deed(plan, s, out, code[1], deed, name)


def slow_row(plan, state, row):
    """The state behind a row, and its story, each tick done by itself."""
    s, past, told = dict(zip(FIELDS, state)), 0, []
    for event in row:
        for _ in range(event[1] if event[0] == "ticks" else 1):
            out = []
            if event[0] == "line":
                do_line(plan, s, out, *event[1:])
            elif event[0] == "code":
                do_code(plan, s, out, *event[1:])
            else:
                past += 1
                one_tick(plan, s, out)
            told.extend((past,) + pair for pair in out)
    return tuple(s[name] for name in FIELDS), tuple(told)


def some_plan(chance):
    zones = tuple((name, chance.choice(("day", "inner", "once", "way", "way")))
                  for name in sorted(chance.sample(NAMES, chance.randint(1, 8))))
    codes = []
    for figures in sorted(chance.sample(("0000", "0007", "1234", "5555", "9998", "9999"), chance.randint(1, 6))):
        rights = tuple(right for right in ("set", "shunt", "unset") if chance.random() < 0.9)
        codes.append((figures, chance.choice(("ann", "bob", "cy")), rights, chance.choice((0, 0, 0, 0, 1, 2, 9))))
    times = (chance.choice((0, 1, 2, 5, 60)), chance.choice((0, 1, 2, 5, 60)), chance.choice((1, 2, 5, 120, 300)))
    return (zones, tuple(codes), times)


def some_event(chance, plan):
    sort = chance.choice(("line", "line", "line", "code", "code", "ticks", "ticks"))
    zone = chance.choice(plan[0])[0]
    if sort == "line":
        return ("line", zone, chance.choice(("shut", "shut", "shut", "open", "open", "cut")))
    if sort == "ticks":
        return ("ticks", chance.choice((1, 1, 2, 3, 7, 59, 60, 61, 89, 90, 91, 400)))
    figures = "4321" if chance.random() < 0.15 else chance.choice(plan[1])[0]
    deed = chance.choice(("set", "set", "set", "unset", "shunt", "free"))
    return ("code", figures, deed, zone if deed in ("shunt", "free") else None)


def some_row(chance, plan, many):
    return tuple(some_event(chance, plan) for _ in range(many))


def some_rows(seed, rows, events):
    """Plans with rows of events, the same ones for the same seed."""
    chance = random.Random(seed)
    for _ in range(rows):
        plan = some_plan(chance)
        yield plan, some_row(chance, plan, events)


def steps(plan, row):
    """For each event of a row: the state ahead of it by the slow way, and the event."""
    state = begun(plan)
    for event in row:
        yield state, event
        state = slow_row(plan, state, (event,))[0]


def some_houses(seed, many):
    chance = random.Random(seed)
    for _ in range(many):
        rooms = chance.randint(1, 7)
        pairs = list(itertools.combinations(range(rooms + 1), 2))
        zones = (None, None, "a", "b", "hall")
        yield (rooms, tuple(chance.choice(pairs) + (chance.choice(zones),) for _ in range(chance.randint(0, 10))))
