"""Openings to watch, ways apart, the quickest way (DOC.md 5.2; 0.2 (f))."""

import itertools
import unittest

from doorwatch.errors import DoorError, NoText, NoWay, NoZone
from doorwatch.houses import unseen, ways
from doorwatch.watching import apart, fewest, quickest
from tests.model import some_houses
from tests.samples import HOUSE

EMPTY = (1, ())
ROW = (3, ((0, 1, "a"), (1, 2, None), (2, 3, "b")))
DOUBLE = (2, ((1, 2, None), (0, 1, None), (1, 2, "a"), (0, 1, "b")))
# Two short ways by the same first opening, and a detour: what is first in order is not what fits best.
TWISTED = (4, ((0, 1, None), (1, 2, None), (0, 2, None), (1, 3, None), (2, 3, None), (3, 4, None), (0, 4, "a")))


def unlocked(pairs):
    """A house with openings between pairs."""
    return (max(other for _, other in pairs), tuple(pair + (None,) for pair in pairs))


def rooms(house):
    return range(1, house[0] + 1)


def stops_all(house, room, numbers):
    return all(set(way) & set(numbers) for way in ways(house, room))


def fewest_by_trial(house, room):
    """All sets are tried, the small ones first."""
    for many in range(len(house[1]) + 1):
        for numbers in itertools.combinations(range(len(house[1])), many):
            if stops_all(house, room, numbers):
                return numbers


def is_apart(some):
    numbers = [number for way in some for number in way]
    return len(numbers) == len(set(numbers))


def apart_by_trial(house, room):
    """All sets of ways are put together from smaller ones, up to the last that there are."""
    through = ways(house, room)
    found = [()]
    while True:
        longer = [some + (way,) for some in found for way in through
                  if (not some or some[-1] < way) and is_apart(some + (way,))]
        if not longer:
            return min(found)
        found = longer


class TestFewest(unittest.TestCase):
    def test_rooms_with_no_way(self):
        for house, room in ((EMPTY, 1), (HOUSE, 4), ((2, ((1, 2, None),)), 1), ((7, ()), 7), (HOUSE, 5)):
            self.assertEqual(fewest(house, room), ())

    def test_one_way(self):
        self.assertEqual(fewest((1, ((0, 1, None),)), 1), (0,))
        self.assertEqual([fewest(ROW, room) for room in (1, 2, 3)], [(0,), (0,), (0,)])

    def test_the_least_of_those_that_do_as_well(self):
        self.assertEqual(fewest(DOUBLE, 2), (0, 2))
        self.assertEqual(fewest(DOUBLE, 1), (1, 3))
        self.assertEqual(fewest(unlocked(((1, 2), (0, 1), (2, 3))), 3), (0,))
        self.assertEqual(fewest(unlocked(((2, 3), (0, 1), (1, 2), (0, 3))), 3), (0, 3))

    def test_fewer_are_ahead_of_less(self):
        self.assertEqual(fewest(unlocked(((0, 1), (0, 1), (0, 1), (1, 2))), 2), (3,))
        self.assertEqual(fewest(TWISTED, 4), (5, 6))

    def test_many_between_the_same_two(self):
        self.assertEqual(fewest(unlocked(((0, 1),) * 10), 1), tuple(range(10)))
        self.assertEqual(fewest(unlocked(((0, 1),) * 9 + ((1, 2),)), 2), (9,))
        self.assertEqual(fewest(unlocked(((0, 1),) * 5 + ((1, 2),) * 5), 2), (0, 1, 2, 3, 4))

    def test_openings_on_no_way_are_left_out(self):
        self.assertEqual(fewest(unlocked(((2, 3), (0, 1), (1, 2), (2, 3))), 1), (1,))
        self.assertEqual(fewest(unlocked(((0, 2), (0, 1))), 1), (1,))

    def test_watched_already_is_all_one(self):
        for house in some_houses(5, 40):
            bare = (house[0], tuple(opening[:2] + (None,) for opening in house[1]))
            for room in rooms(house):
                self.assertEqual(fewest(house, room), fewest(bare, room))

    def test_any_houses_by_trial(self):
        for house in some_houses(1, 250):
            for room in rooms(house):
                self.assertEqual(fewest(house, room), fewest_by_trial(house, room), (house, room))


class TestApart(unittest.TestCase):
    def test_rooms_with_no_way(self):
        for house, room in ((EMPTY, 1), (HOUSE, 4), ((2, ((1, 2, None),)), 1), ((7, ()), 7), (HOUSE, 5)):
            self.assertEqual(apart(house, room), ())

    def test_one_way(self):
        self.assertEqual(apart((1, ((0, 1, None),)), 1), ((0,),))
        self.assertEqual(apart(ROW, 3), ((0, 1, 2),))

    def test_the_least_of_those_that_are_as_many(self):
        self.assertEqual(apart(DOUBLE, 2), ((1, 0), (3, 2)))
        self.assertEqual(apart(HOUSE, 1), ((0,), (1, 2)))
        self.assertEqual(apart(unlocked(((0, 1), (0, 1), (1, 2))), 2), ((0, 2),))

    def test_more_are_ahead_of_less(self):
        crossed = unlocked(((0, 1), (1, 2), (2, 3), (0, 2), (1, 3)))
        self.assertEqual(ways(crossed, 3), ((0, 1, 2), (0, 4), (3, 1, 4), (3, 2)))
        self.assertEqual(apart(crossed, 3), ((0, 4), (3, 2)))

    def test_a_room_may_be_come_to_by_several(self):
        self.assertEqual(apart(unlocked(((0, 1), (1, 2), (0, 1), (1, 2))), 2), ((0, 1), (2, 3)))

    def test_many_between_the_same_two(self):
        self.assertEqual(apart(unlocked(((0, 1),) * 10), 1), tuple((k,) for k in range(10)))
        self.assertEqual(apart(unlocked(((0, 1),) * 5 + ((1, 2),) * 5), 2), tuple((k, k + 5) for k in range(5)))

    def test_any_houses_by_trial(self):
        for house in some_houses(2, 250):
            for room in rooms(house):
                self.assertEqual(apart(house, room), apart_by_trial(house, room), (house, room))


class TestQuickest(unittest.TestCase):
    def test_ordinary_ways(self):
        self.assertEqual([quickest(HOUSE, room) for room in (1, 2, 3)], [(0,), (1,), (1, 4)])
        self.assertEqual(quickest(ROW, 3), (0, 1, 2))
        self.assertEqual(quickest(TWISTED, 4), (6,))

    def test_the_least_of_those_with_the_fewest(self):
        self.assertEqual(quickest(DOUBLE, 2), (1, 0))
        self.assertEqual(quickest(DOUBLE, 1), (1,))
        self.assertEqual(quickest(TWISTED, 3), (0, 3))
        self.assertEqual(quickest(unlocked(((0, 1),) * 10), 1), (0,))

    def test_refused_where_there_is_no_way(self):
        for house, room in ((EMPTY, 1), (HOUSE, 4), ((2, ((1, 2, None),)), 2), ((7, ()), 7), (HOUSE, 5)):
            for wider in (NoWay, DoorError, ValueError):
                with self.subTest(house=house, wider=wider), self.assertRaises(wider):
                    quickest(house, room)
            try:
                quickest(house, room)
            except (NoZone, NoText):
                self.fail("another refusal")
            except NoWay:
                pass

    def test_any_houses_by_trial(self):
        for house in some_houses(3, 250):
            for room in rooms(house):
                through = ways(house, room)
                if through:
                    short = min(len(way) for way in through)
                    self.assertEqual(quickest(house, room), min(way for way in through if len(way) == short))
                else:
                    self.assertRaises(NoWay, quickest, house, room)


class TestOpeningsToWatch(unittest.TestCase):
    def test_watched_as_told_a_room_is_not_come_to_unseen(self):
        for house in some_houses(4, 150):
            for room in rooms(house):
                numbers = fewest(house, room)
                watched = tuple(opening[:2] + ("new" if k in numbers else None,)
                                for k, opening in enumerate(house[1]))
                self.assertNotIn(room, unseen((house[0], watched), ()))
                for left in numbers:
                    but_one = tuple(opening[:2] + ("new" if k in numbers and k != left else None,)
                                    for k, opening in enumerate(house[1]))
                    self.assertIn(room, unseen((house[0], but_one), ()))

    def test_ways_apart_show_that_no_fewer_would_do(self):
        for house in some_houses(6, 150):
            for room in rooms(house):
                through = apart(house, room)
                self.assertEqual(len(through), len(fewest(house, room)))
                self.assertTrue(is_apart(through))
                self.assertEqual(list(through), sorted(set(through)))
                self.assertTrue(set(through) <= set(ways(house, room)))


if __name__ == "__main__":
    unittest.main()
