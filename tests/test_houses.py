import copy
import inspect
import itertools
import unittest

from doorwatch import houses
from doorwatch.houses import is_house, unseen, ways, zones_of
from tests.samples import (
    CODES, EVENTS, HOUSE, PLAN, STRAY_THINGS, TIMES, ZONES, other_lengths, part_at, paths, put, with_lists,
)

WIDE = (
    7,
    (
        (5, 6, None), (0, 3, "a"), (3, 5, None), (0, 1, None), (1, 3, "b"),
        (6, 7, "a"), (1, 2, None), (2, 3, None), (0, 1, "b"), (2, 6, "c"),
    ),
)


def walk(house, way):
    """The places to which a way comes, outside first; None if it can't be walked."""
    places = [0]
    for number in way:
        one, other, _ = house[1][number]
        if places[-1] == one:
            places.append(other)
        elif places[-1] == other:
            places.append(one)
        else:
            return None
    return places


def ways_by_trial(house, room):
    """All rows of unlike openings are tried: slow, and nothing like the program."""
    found = []
    for many in range(1, min(house[0], len(house[1])) + 1):
        for way in itertools.permutations(range(len(house[1])), many):
            places = walk(house, way)
            if places and places[-1] == room and len(set(places)) == len(places):
                found.append(way)
    return tuple(sorted(found))


def small_houses():
    """Every house of 3 rooms and up to 3 openings, some by a zone, some by none."""
    pairs = itertools.combinations(range(4), 2)
    openings = [pair + (zone,) for pair in pairs for zone in (None, "a")]
    for many in range(4):
        for some in itertools.product(openings, repeat=many):
            yield (3, some)


def is_free(house, way, names):
    return all(house[1][number][2] is None or house[1][number][2] in names for number in way)


class TestIsHouse(unittest.TestCase):
    def house(self, thing, expected):
        self.assertIs(is_house(thing), expected, thing)

    def test_ordinary_houses(self):
        for house in (HOUSE, WIDE, (1, ()), (7, ()), (1, ((0, 1, "a"),)), (7, ((6, 7, None),))):
            self.house(house, True)

    def test_things_of_other_kinds(self):
        for thing in STRAY_THINGS + (None, 0, 1, (), "house", PLAN, ZONES, CODES, TIMES, HOUSE[1]) + EVENTS:
            self.house(thing, False)

    def test_stray_things_at_each_place(self):
        for path in paths(HOUSE):
            for thing in STRAY_THINGS + (1.0, {}):
                self.house(put(HOUSE, path, thing), False)

    def test_none_stands_for_a_zone_alone(self):
        for path in paths(HOUSE):
            is_zone = len(path) == 3 and path[2] == 2
            self.house(put(HOUSE, path, None), is_zone)

    def test_truths_are_no_numbers(self):
        self.house((True, ()), False)
        self.house((1, ((False, 1, None),)), False)
        self.house((1, ((0, True, None),)), False)
        self.house((2, ((True, 2, None),)), False)
        self.house((1, ((0, 1, True),)), False)
        self.house((1, ((0, 1, False),)), False)

    def test_lists_stand_nowhere(self):
        for house in (HOUSE, (1, ())):
            for thing in with_lists(house):
                self.house(thing, False)

    def test_tuples_one_longer_or_shorter(self):
        for path in ((), (1, 0), (1, 1), (1, 4)):
            for other in other_lengths(part_at(HOUSE, path)):
                self.house(put(HOUSE, path, other), False)

    def test_how_many_rooms(self):
        for rooms in range(-2, 10):
            self.house((rooms, ()), 1 <= rooms <= 7)
            self.house((rooms, ((0, 1, None),)), 1 <= rooms <= 7)
        self.house((10**30, ()), False)

    def test_how_many_openings(self):
        for many in range(13):
            self.house((2, ((1, 2, "x"),) * many), many <= 10)

    def test_openings_lie_between_rooms_or_outside_the_lesser_first(self):
        for one, other in itertools.product(range(-2, 7), repeat=2):
            self.house((4, ((one, other, None),)), 0 <= one < other <= 4)

    def test_openings_need_not_rise_nor_be_unlike(self):
        self.house((2, ((1, 2, "a"), (0, 1, "b"), (1, 2, "a"), (0, 1, None), (0, 2, "a"))), True)

    def test_zones(self):
        for zone in ("a", "z", "abcd", None):
            self.house((1, ((0, 1, zone),)), True)
        for zone in ("", "abcde", "A", "a1", "-", "a ", "\u00e9", 0, 1, (), ("a",), ["a"]):
            self.house((1, ((0, 1, zone),)), False)


class TestZonesOf(unittest.TestCase):
    def test_rising_each_once_without_none(self):
        self.assertEqual(zones_of(HOUSE), ("back", "hall"))
        self.assertEqual(zones_of(WIDE), ("a", "b", "c"))
        self.assertEqual(zones_of((1, ((0, 1, "b"), (0, 1, "ab"), (0, 1, "b"), (0, 1, "a")))), ("a", "ab", "b"))

    def test_none_at_all(self):
        self.assertEqual(zones_of((1, ())), ())
        self.assertEqual(zones_of((2, ((0, 1, None), (1, 2, None)))), ())


class TestUnseen(unittest.TestCase):
    def test_by_openings_that_no_zone_watches(self):
        self.assertEqual(unseen(HOUSE, ()), (0, 1, 2))
        self.assertEqual(unseen(WIDE, ()), (0, 1, 2, 3, 5, 6))

    def test_names_do_not_count(self):
        self.assertEqual(unseen(HOUSE, ("hall",)), (0, 1, 2, 3))
        self.assertEqual(unseen(HOUSE, ("back",)), (0, 1, 2))
        chain = (3, ((0, 1, "a"), (1, 2, "b"), (2, 3, None)))
        self.assertEqual(unseen(chain, ()), (0,))
        self.assertEqual(unseen(chain, ("b",)), (0,))
        self.assertEqual(unseen(chain, ("a",)), (0, 1))
        self.assertEqual(unseen(chain, ("a", "b")), (0, 1, 2, 3))
        self.assertEqual(unseen(chain, ("b", "a")), (0, 1, 2, 3))

    def test_names_that_watch_nothing(self):
        self.assertEqual(unseen(HOUSE, ("x", "win")), (0, 1, 2))
        self.assertEqual(unseen((1, ((0, 1, "ab"),)), ("a", "b", "abc")), (0,))

    def test_outside_always_stands_in_it(self):
        self.assertEqual(unseen((1, ()), ()), (0,))
        self.assertEqual(unseen((7, ()), ("a",)), (0,))
        self.assertEqual(unseen((2, ((1, 2, None),)), ()), (0,))

    def test_openings_are_gone_through_both_ways_and_in_any_order(self):
        self.assertEqual(unseen((3, ((1, 2, None), (2, 3, None), (0, 3, None))), ()), (0, 1, 2, 3))


class TestWays(unittest.TestCase):
    def test_ordinary_ways(self):
        self.assertEqual(ways(HOUSE, 1), ((0,), (1, 2), (1, 3)))
        self.assertEqual(ways(HOUSE, 2), ((0, 2), (0, 3), (1,)))
        self.assertEqual(ways(HOUSE, 3), ((0, 2, 4), (0, 3, 4), (1, 4)))

    def test_rooms_without_a_way(self):
        self.assertEqual(ways(HOUSE, 4), ())
        self.assertEqual(ways((1, ()), 1), ())
        self.assertEqual(ways((2, ((1, 2, None),)), 2), ())

    def test_rooms_beyond_the_house_are_not_refused(self):
        self.assertEqual(ways(HOUSE, 5), ())
        self.assertEqual(ways(HOUSE, 8), ())

    def test_several_openings_between_the_same_two(self):
        self.assertEqual(ways((1, ((0, 1, None), (0, 1, "a"), (0, 1, "a"))), 1), ((0,), (1,), (2,)))
        double = (2, ((1, 2, None), (0, 1, None), (1, 2, "a"), (0, 1, "b")))
        self.assertEqual(ways(double, 2), ((1, 0), (1, 2), (3, 0), (3, 2)))
        self.assertEqual(ways(double, 1), ((1,), (3,)))

    def test_watched_or_not_is_all_one(self):
        unwatched = (HOUSE[0], tuple(opening[:2] + (None,) for opening in HOUSE[1]))
        for room in range(1, 5):
            self.assertEqual(ways(HOUSE, room), ways(unwatched, room))

    def test_openings_are_gone_through_both_ways(self):
        self.assertEqual(ways((3, ((1, 2, None), (2, 3, None), (0, 3, None))), 1), ((2, 1, 0),))

    def test_outside_is_not_come_to_again(self):
        self.assertEqual(ways((2, ((0, 1, None), (0, 2, None))), 2), ((1,),))

    def test_all_small_houses_by_trial(self):
        for house in small_houses():
            for room in (1, 2, 3):
                self.assertEqual(ways(house, room), ways_by_trial(house, room), (house, room))

    def test_a_wide_house_by_trial(self):
        for room in (3, 6):
            self.assertEqual(ways(WIDE, room), ways_by_trial(WIDE, room), room)

    def test_rising_and_to_no_place_twice(self):
        for house in (HOUSE, WIDE):
            for room in range(1, house[0] + 1):
                told = ways(house, room)
                self.assertEqual(list(told), sorted(set(told)))
                for way in told:
                    places = walk(house, way)
                    self.assertEqual(places[-1], room)
                    self.assertEqual(len(places), len(set(places)))

    def test_seven_rooms_and_ten_openings_in_a_row(self):
        row = (7, tuple((k, k + 1, None) for k in range(7)) + ((0, 1, "a"), (3, 4, "b"), (6, 7, "c")))
        self.assertEqual(len(ways(row, 7)), 8)
        self.assertEqual(ways(row, 7)[0], (0, 1, 2, 3, 4, 5, 6))
        self.assertEqual(ways(row, 7)[-1], (7, 1, 2, 8, 4, 5, 9))


class TestUnseenHasAFreeWay(unittest.TestCase):
    def check(self, house, names):
        free = [room for room in range(1, house[0] + 1) if any(is_free(house, way, names) for way in ways(house, room))]
        self.assertEqual(unseen(house, names), tuple([0] + free), (house, names))

    def test_small_houses(self):
        for house in small_houses():
            for names in ((), ("a",), ("b",)):
                self.check(house, names)

    def test_larger_houses(self):
        for house in (HOUSE, WIDE):
            for many in range(4):
                for names in itertools.combinations(("a", "b", "back", "c", "hall", "x"), many):
                    self.check(house, names)


class TestTheWhole(unittest.TestCase):
    def test_arguments(self):
        wanted = {"is_house": 1, "zones_of": 1, "unseen": 2, "ways": 2}
        for name, many in wanted.items():
            self.assertEqual(len(inspect.signature(getattr(houses, name)).parameters), many, name)

    def test_tuples_are_told(self):
        told = [zones_of(HOUSE), unseen(HOUSE, ()), ways(HOUSE, 1), ways(HOUSE, 4)] + list(ways(HOUSE, 1))
        self.assertEqual({type(thing) for thing in told}, {tuple})

    def test_what_is_handed_in_is_not_changed(self):
        for thing in with_lists(HOUSE) + list(STRAY_THINGS):
            before = copy.deepcopy(thing)
            is_house(thing)
            self.assertEqual(thing, before)

    def test_asked_again_the_same_is_told(self):
        for _ in range(2):
            self.assertIs(is_house(HOUSE), True)
            self.assertEqual(zones_of(HOUSE), ("back", "hall"))
            self.assertEqual(unseen(HOUSE, ("hall",)), (0, 1, 2, 3))
            self.assertEqual(unseen(HOUSE, ()), (0, 1, 2))
            self.assertEqual(ways(HOUSE, 1), ((0,), (1, 2), (1, 3)))


if __name__ == "__main__":
    unittest.main()
