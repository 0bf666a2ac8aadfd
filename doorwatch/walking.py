"""One who walks a way: the events of it, where the box tells an alarm, and the way where that comes latest."""

from doorwatch.rows import after, story
from doorwatch.watching import ways_at_all

TICKS_TO_PASS = 1


def passed(opening, pace):
    # The row of one opening: passing it, and walking on behind it.
    zone = opening[2]
    if zone is None:
        return (("ticks", TICKS_TO_PASS), ("ticks", pace))
    return (("line", zone, "open"), ("ticks", TICKS_TO_PASS), ("line", zone, "shut"), ("ticks", pace))


def walked(house, way, pace):
    row = []
    for number in way:
        row.extend(passed(house[1][number], pace))
    return tuple(row)


def has_alarm(told):
    return "alarm" in [word for past, word, name in told]


def caught(plan, house, state, way, pace):
    here = state
    for place, number in enumerate(way, start=1):
        row = passed(house[1][number], pace)
        if has_alarm(story(plan, here, row)):
            return place
        here = after(plan, here, row)
    return None


def lateness(place):
    # Where no alarm comes, it is later than at any place.
    return (1, 0) if place is None else (0, place)


def safest(plan, house, state, room, pace):
    # The ways rise, and of several that are as late max tells the first: the least.
    return max(ways_at_all(house, room), key=lambda way: lateness(caught(plan, house, state, way, pace)))
