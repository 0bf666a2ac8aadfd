"""Plans: zones, codes and times; the events of a plan, and the state with which it begins."""

from doorwatch.errors import NoZone
from doorwatch.forms import is_figures, is_name, is_tuple, is_whole, is_within, rises

KINDS = ("day", "inner", "once", "way")
RIGHTS = ("set", "shunt", "unset")
LINES = ("shut", "open", "cut")
DEEDS_ALONE = ("set", "unset")
DEEDS_OF_ZONES = ("shunt", "free")


def is_zone(thing):
    return is_tuple(thing, 2, 2) and is_name(thing[0]) and thing[1] in KINDS


def are_zones(thing):
    if not is_tuple(thing, 1, 8) or not all([is_zone(zone) for zone in thing]):
        return False
    # The names are to be unlike, so they alone decide whether the zones rise.
    return rises([zone[0] for zone in thing])


def are_rights(thing):
    # Each is known to be a text ahead of being compared: other things may have no order.
    return is_tuple(thing, 0, 3) and all([right in RIGHTS for right in thing]) and rises(thing)


def is_code(thing):
    if not is_tuple(thing, 4, 4):
        return False
    return is_figures(thing[0]) and is_name(thing[1]) and are_rights(thing[2]) and is_within(thing[3], 0, 9)


def are_codes(thing):
    if not is_tuple(thing, 1, 6) or not all([is_code(code) for code in thing]):
        return False
    # As with zones: the figures are to be unlike, so they alone decide.
    return rises([code[0] for code in thing])


def are_times(thing):
    if not is_tuple(thing, 3, 3):
        return False
    return is_within(thing[0], 0, 60) and is_within(thing[1], 0, 60) and is_within(thing[2], 1, 300)


def is_plan(thing):
    return is_tuple(thing, 3, 3) and are_zones(thing[0]) and are_codes(thing[1]) and are_times(thing[2])


def has_zone(plan, name):
    return name in [zone[0] for zone in plan[0]]


def is_line_event(plan, thing):
    return is_tuple(thing, 3, 3) and thing[0] == "line" and has_zone(plan, thing[1]) and thing[2] in LINES


def is_code_event(plan, thing):
    if not is_tuple(thing, 4, 4) or thing[0] != "code" or not is_figures(thing[1]):
        return False
    if thing[2] in DEEDS_ALONE:
        return thing[3] is None
    return thing[2] in DEEDS_OF_ZONES and has_zone(plan, thing[3])


def is_ticks_event(thing):
    return is_tuple(thing, 2, 2) and thing[0] == "ticks" and is_whole(thing[1]) and thing[1] >= 1


def is_event(plan, thing):
    return is_line_event(plan, thing) or is_code_event(plan, thing) or is_ticks_event(thing)


def kind_of(plan, name):
    for zone in plan[0]:
        if zone[0] == name:
            return zone[1]
    raise NoZone(f"no zone is called {name!r}")


def who_of(plan, figures):
    for code in plan[1]:
        if code[0] == figures:
            return code[1]
    return None


def begun(plan):
    lines = tuple(["shut" for zone in plan[0]])
    used = tuple([0 for code in plan[1]])
    return ("off", 0, None, lines, (), 0, (), 0, 0, used)
