"""Openings to watch for a room, ways to it that lie apart, and the quickest way."""

from doorwatch.errors import NoWay
from doorwatch.houses import ways


def stops(through, numbers, many):
    # The least so many of the rising numbers such that each way has one of them; None if there are none such.
    if not through:
        return ()
    if many == 0:
        return None
    for place, number in enumerate(numbers):
        others = [way for way in through if number not in way]
        # A number that stops no way is left out: without it, fewer would do, and fewer were tried ahead.
        if len(others) < len(through):
            behind = stops(others, numbers[place + 1:], many - 1)
            if behind is not None:
                return (number,) + behind
    return None


def fewest(house, room):
    through = ways(house, room)
    numbers = tuple(range(len(house[1])))
    for many in range(len(numbers) + 1):
        found = stops(through, numbers, many)
        if found is not None:
            return found
    # Here it comes for outside alone: nothing stops the way of no openings.
    return ()


def are_apart(way, other):
    return not any([number in other for number in way])


def first_apart(through, many):
    # The least so many of the rising ways of which no two have an opening in common; None if there are none such.
    if many == 0:
        return ()
    for place, way in enumerate(through):
        others = [other for other in through[place + 1:] if are_apart(way, other)]
        behind = first_apart(others, many - 1)
        if behind is not None:
            return (way,) + behind
    return None


def apart(house, room):
    # Ways apart are never more than the openings to watch, as each opening stops one of them at most;
    # that they can always be as many is Menger's theorem.
    return first_apart(ways(house, room), len(fewest(house, room)))


def ways_at_all(house, room):
    through = ways(house, room)
    if not through:
        raise NoWay(f"no way leads to room {room!r}")
    return through


def quickest(house, room):
    return min(ways_at_all(house, room), key=lambda way: (len(way), way))
