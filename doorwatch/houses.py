"""Houses: rooms and openings, what watches them, and the ways through them."""

from doorwatch.forms import is_name, is_tuple, is_within

OUTSIDE = 0


def is_opening(rooms, thing):
    if not is_tuple(thing, 3, 3) or not is_within(thing[1], 1, rooms):
        return False
    return is_within(thing[0], OUTSIDE, thing[1] - 1) and (thing[2] is None or is_name(thing[2]))


def is_house(thing):
    if not is_tuple(thing, 2, 2) or not is_within(thing[0], 1, 7) or not is_tuple(thing[1], 0, 10):
        return False
    return all([is_opening(thing[0], opening) for opening in thing[1]])


def zones_of(house):
    return tuple(sorted(set([opening[2] for opening in house[1] if opening[2] is not None])))


def beyond(opening, here):
    # An opening is gone through both ways: that its first number is less is but how it is written.
    if opening[0] == here:
        return opening[1]
    if opening[1] == here:
        return opening[0]
    return None


def unseen(house, names):
    unwatched = [opening for opening in house[1] if opening[2] is None or opening[2] in names]
    reached = {OUTSIDE: True}
    waiting = [OUTSIDE]
    while waiting:
        here = waiting.pop()
        for opening in unwatched:
            there = beyond(opening, here)
            if there is not None and there not in reached:
                reached[there] = True
                waiting.append(there)
    return tuple(sorted(reached))


def ways_on(house, room, places):
    # A way ends where it comes to the room, as going on it could but come there twice.
    if places[-1] == room:
        return [()]
    found = []
    for number, opening in enumerate(house[1]):
        there = beyond(opening, places[-1])
        if there is not None and there not in places:
            found.extend([(number,) + rest for rest in ways_on(house, room, places + (there,))])
    return found


def ways(house, room):
    # They rise as they come, since openings are tried in the order of their numbers.
    return tuple(ways_on(house, room, (OUTSIDE,)))
