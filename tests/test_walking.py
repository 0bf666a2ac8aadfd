"""One who walks a way (DOC.md 6.1): the row, where an alarm comes, and the way where it comes latest."""

import random
import unittest

from doorwatch.errors import NoDeed, NoText, NoWay, NoZone
from doorwatch.houses import ways
from doorwatch.plans import begun, is_event
from doorwatch.rows import after, story
from doorwatch.walking import caught, safest, walked
from tests.model import field, slow_row, some_houses, some_plan, some_row
from tests.samples import WATCHED, state_in, with_times
from tests.test_ticks import lines_run

# Of the zones of WATCHED: gate and in are ways, room is inner, win once, d day; each opening has a name here.
GATE, ROOM, WIN, BARE, IN, DAY, GATE_TOO = range(7)
HOUSE = (5, ((0, 1, "gate"), (1, 2, "room"), (0, 2, "win"), (2, 3, None), (3, 4, "in"), (0, 4, "d"), (1, 2, "gate")))


def house_of(rooms, *openings):
    return (rooms, openings)


def walk_by_rule(house, way, pace):
    """The events of each opening, a list for each."""
    found = []
    for number in way:
        zone = house[1][number][2]
        tick = [("ticks", 1)]
        pass_it = [("line", zone, "open")] + tick + [("line", zone, "shut")] if zone else tick
        found.append(pass_it + [("ticks", pace)])
    return found


def caught_by_rule(plan, house, state, way, pace):
    for place, events in enumerate(walk_by_rule(house, way, pace), start=1):
        state, told = slow_row(plan, state, events)
        if [word for _, word, _ in told if word == "alarm"]:
            return place
    return None


def safest_by_rule(plan, house, state, room, pace):
    places = [(caught_by_rule(plan, house, state, way, pace), way) for way in ways(house, room)]
    never = [way for place, way in places if place is None]
    if never:
        return min(never)
    latest = max(place for place, _ in places)
    return min(way for place, way in places if place == latest)


def some_walks(seed, many):
    """Plans, houses of their zones, states that came of events, and paces."""
    chance = random.Random(seed)
    for house in some_houses(seed, many):
        plan = some_plan(chance)
        names = [zone[0] for zone in plan[0]]
        openings = tuple(opening[:2] + (opening[2] and chance.choice(names),) for opening in house[1])
        state = slow_row(plan, begun(plan), some_row(chance, plan, chance.randint(0, 12)))[0]
        if field(state, "mode") == "off" and chance.random() < 0.7:
            figures = chance.choice(plan[1])[0]
            state = slow_row(plan, state, (("code", figures, "set", None), ("ticks", chance.choice((1, 60)))))[0]
        yield plan, (house[0], openings), state, chance.choice((1, 1, 2, 3, 4, 5, 19, 59, 60, 100))


def some_way(chance, house):
    numbers = range(len(house[1]))
    return tuple(chance.choice(numbers) for _ in range(chance.randint(0, 7))) if numbers else ()


class TestWalked(unittest.TestCase):
    def test_no_opening(self):
        for pace in (1, 10**9):
            self.assertEqual(walked(HOUSE, (), pace), ())
            self.assertEqual(walked((1, ()), (), pace), ())

    def test_an_opening_that_a_zone_watches(self):
        row = (("line", "room", "open"), ("ticks", 1), ("line", "room", "shut"), ("ticks", 7))
        self.assertEqual(walked(HOUSE, (ROOM,), 7), row)

    def test_an_opening_that_nothing_watches(self):
        self.assertEqual(walked(HOUSE, (BARE,), 7), (("ticks", 1), ("ticks", 7)))

    def test_several_in_the_order_of_the_way(self):
        row = (("line", "d", "open"), ("ticks", 1), ("line", "d", "shut"), ("ticks", 2), ("ticks", 1), ("ticks", 2),
               ("line", "gate", "open"), ("ticks", 1), ("line", "gate", "shut"), ("ticks", 2))
        self.assertEqual(walked(HOUSE, (DAY, BARE, GATE), 2), row)

    def test_the_same_opening_twice_and_several_of_one_zone(self):
        once = (("line", "gate", "open"), ("ticks", 1), ("line", "gate", "shut"), ("ticks", 3))
        self.assertEqual(walked(HOUSE, (GATE, GATE), 3), once + once)
        self.assertEqual(walked(HOUSE, (GATE, GATE_TOO, GATE), 3), once * 3)
        self.assertEqual(walked(HOUSE, (BARE, BARE), 3), (("ticks", 1), ("ticks", 3)) * 2)

    def test_the_least_pace_and_great_ones(self):
        for pace in (1, 2, 1000, 10**9, 10**200):
            row = (("line", "in", "open"), ("ticks", 1), ("line", "in", "shut"), ("ticks", pace))
            self.assertEqual(walked(HOUSE, (IN,), pace), row)
            self.assertEqual(walked(HOUSE, (BARE,), pace), (("ticks", 1), ("ticks", pace)))

    def test_openings_that_do_not_hang_together(self):
        self.assertEqual(walked(HOUSE, (BARE, DAY), 1), walked(HOUSE, (BARE,), 1) + walked(HOUSE, (DAY,), 1))

    def test_long_ways(self):
        self.assertEqual(walked(HOUSE, (BARE,) * 3000, 4), (("ticks", 1), ("ticks", 4)) * 3000)

    def test_rows_of_events_by_rule(self):
        chance = random.Random(41)
        for plan, house, state, pace in some_walks(42, 200):
            way = some_way(chance, house)
            row = walked(house, way, pace)
            self.assertEqual(row, tuple(event for part in walk_by_rule(house, way, pace) for event in part))
            self.assertTrue(all(is_event(plan, event) for event in row))
            self.assertIs(type(row), tuple)


class TestCaught(unittest.TestCase):
    def check(self, state, way, pace, place, plan=WATCHED):
        self.assertEqual(caught(plan, HOUSE, state, way, pace), place, (state, way, pace))

    def test_no_opening(self):
        for mode in ("off", "leaving", "on", "coming"):
            self.check(state_in(mode, {"room": "open", "gate": "cut"}), (), 10**9, None)

    def test_off(self):
        for way in ((GATE,), (ROOM,), (WIN,), (BARE,), (IN, GATE_TOO, WIN, ROOM, BARE)):
            for pace in (1, 10**9):
                self.check(state_in("off"), way, pace, None)
        self.check(state_in("off"), (DAY,), 1, 1)
        self.check(state_in("off"), (GATE, WIN, DAY, DAY), 1, 3)

    def test_leaving(self):
        self.check(state_in("leaving"), (GATE, ROOM, BARE, IN), 1, None)
        self.check(state_in("leaving"), (WIN,), 1, 1)
        self.check(state_in("leaving"), (BARE, DAY), 1, 2)

    def test_leaving_is_over_on_the_way(self):
        self.check(state_in("leaving"), (ROOM,), 10**9, None)
        self.check(state_in("leaving"), (ROOM, ROOM), 14, None)
        self.check(state_in("leaving"), (ROOM, ROOM), 28, 2)
        self.check(state_in("leaving"), (ROOM, ROOM), 29, 2)
        self.check(state_in("leaving"), (GATE, GATE), 29, 2)
        self.check(state_in("leaving"), (GATE, GATE), 29, None, with_times(WATCHED, 30, 31, 120))

    def test_leaving_is_over_while_a_line_is_open(self):
        plan = with_times(WATCHED, 3, 20, 120)
        state = ("leaving", 3) + state_in("leaving")[2:]
        self.check(state, (ROOM, ROOM), 1, 2, plan)
        self.check(state[:1] + (1,) + state[2:], (ROOM,), 1, 1, plan)
        self.check(state[:1] + (1,) + state[2:], (GATE,), 1, 1, plan)
        self.check(state[:1] + (1,) + state[2:], (BARE,), 1, None, plan)
        self.check(state[:1] + (2,) + state[2:], (ROOM,), 1, None, plan)

    def test_leaving_is_over_with_lines_open_already(self):
        state = state_in("leaving", {"gate": "open"})
        self.check(state, (BARE,), 28, None)
        self.check(state, (BARE,), 29, 1)
        self.check(state, (BARE, BARE), 28, 2)
        self.check(state, (GATE,), 29, None)
        self.check(state_in("leaving", {"win": "open"}), (BARE,), 29, None)

    def test_on_at_once(self):
        for way, place in (((ROOM,), 1), ((WIN,), 1), ((DAY,), 1), ((BARE, ROOM), 2), ((BARE, BARE, BARE, WIN), 4)):
            for pace in (1, 10**9):
                self.check(state_in("on"), way, pace, place)
        for pace in (1, 10**9):
            self.check(state_in("on"), (BARE,) * 10, pace, None)

    def test_on_in_the_ticks_behind_an_opening(self):
        self.check(state_in("on"), (GATE,), 18, None)
        self.check(state_in("on"), (GATE,), 19, 1)
        self.check(state_in("on"), (GATE,), 10**9, 1)
        self.check(state_in("on"), (BARE, GATE), 19, 2)
        self.check(state_in("on"), (GATE, BARE), 17, 2)
        self.check(state_in("on"), (GATE, BARE, BARE), 9, 2)
        self.check(state_in("on"), (GATE, BARE, BARE), 8, 3)

    def test_on_in_the_tick_of_passing_a_later_opening(self):
        for number in (ROOM, GATE_TOO, BARE, IN):
            self.check(state_in("on"), (GATE, number), 18, 2)

    def test_on_and_the_time_to_come_is_nought(self):
        self.check(state_in("on"), (GATE,), 1, 1, with_times(WATCHED, 30, 0, 120))
        self.check(state_in("on"), (BARE, GATE), 1, 2, with_times(WATCHED, 30, 0, 120))

    def test_on_and_the_time_to_come_lets_one_through(self):
        self.check(state_in("on"), (GATE, ROOM, IN, GATE_TOO), 1, None)
        self.check(state_in("on"), (GATE, ROOM, WIN), 1, 3)
        self.check(state_in("on"), (GATE, DAY), 1, 2)

    def test_coming(self):
        self.check(state_in("coming"), (ROOM, IN, GATE, BARE), 1, None)
        self.check(state_in("coming"), (WIN,), 1, 1)
        self.check(state_in("coming"), (BARE,), 18, None)
        self.check(state_in("coming"), (BARE,), 19, 1)
        self.check(state_in("coming"), (ROOM, IN), 18, 2)

    def test_zones_shunted(self):
        state = state_in("on", shunts=("gate", "room", "win"))
        self.check(state, (GATE, ROOM, WIN, GATE_TOO), 10**9, None)
        self.check(state, (GATE, ROOM, WIN, IN), 19, 4)
        self.check(state_in("leaving", {"gate": "open"}, ("gate",)), (BARE,), 29, None)
        self.check(state_in("leaving", shunts=("win",)), (WIN,), 1, None)

    def test_lines_open_already(self):
        state = state_in("on", {"room": "open"})
        self.check(state, (ROOM,), 1, None)
        self.check(state, (ROOM, ROOM), 1, 2)
        self.check(state_in("off", {"d": "open"}), (DAY, DAY), 1, 2)
        self.check(state_in("on", {"gate": "open"}), (GATE, BARE), 10**9, None)

    def test_lines_cut_already(self):
        self.check(state_in("on", {"room": "cut"}), (ROOM,), 1, 1)
        self.check(state_in("off", {"room": "cut"}), (ROOM,), 1, None)

    def test_alarms_told_already_are_told_no_more(self):
        self.check(state_in("on", alarms=("room",)), (ROOM,), 1, None)
        self.check(state_in("on", alarms=("room",)), (ROOM, WIN), 1, 2)
        self.check(state_in("coming", alarms=("gate",)), (BARE,), 10**9, None)
        self.check(state_in("off", siren=99, alarms=("d",)), (DAY,), 1, None)

    def test_the_siren_and_a_lock_say_nothing_of_it(self):
        self.check(state_in("on", siren=120, locked=90, tries=2), (BARE, BARE), 1, None)

    def test_the_place_is_of_the_way_not_of_the_house(self):
        self.check(state_in("on"), (BARE, BARE, ROOM), 1, 3)
        self.check(state_in("on"), (ROOM, BARE), 1, 1)

    def test_any_walks_by_rule(self):
        chance = random.Random(43)
        found = set()
        for plan, house, state, pace in some_walks(44, 1500):
            for _ in range(3):
                way = some_way(chance, house)
                place = caught_by_rule(plan, house, state, way, pace)
                self.assertEqual(caught(plan, house, state, way, pace), place, (plan, house, state, way, pace))
                found.add((field(state, "mode"), place))
        for mode in ("off", "leaving", "on", "coming"):
            self.assertLessEqual({(mode, None), (mode, 1), (mode, 2)}, found)

    def test_it_is_the_first_alarm_of_the_story(self):
        chance = random.Random(45)
        for plan, house, state, pace in some_walks(46, 300):
            way = some_way(chance, house)
            alarms = [told for told in story(plan, state, walked(house, way, pace)) if told[1] == "alarm"]
            place = caught(plan, house, state, way, pace)
            self.assertEqual(place is None, not alarms)
            if alarms:
                self.assertEqual(story(plan, state, walked(house, way[:place - 1], pace)).count(alarms[0]), 0)
                self.assertIn(alarms[0], story(plan, state, walked(house, way[:place], pace)))


class TestSafest(unittest.TestCase):
    def check(self, house, state, room, pace, way, plan=WATCHED):
        self.assertEqual(safest(plan, house, state, room, pace), way)

    def test_one_way(self):
        house = house_of(2, (0, 1, "room"), (1, 2, None))
        for mode in ("off", "leaving", "on", "coming"):
            self.check(house, state_in(mode), 1, 1, (0,))
            self.check(house, state_in(mode), 2, 10**9, (0, 1))

    def test_the_latest_of_several(self):
        house = house_of(3, (0, 3, "room"), (0, 1, None), (1, 3, "win"), (1, 2, None), (2, 3, "win"))
        self.check(house, state_in("on"), 3, 1, (1, 3, 4))
        self.check(house, state_in("on"), 1, 1, (1,))
        self.check(house, state_in("on", {"room": "open"}), 3, 1, (0,))

    def test_the_last_is_not_the_longest(self):
        house = house_of(3, (0, 1, "win"), (1, 2, None), (2, 3, None), (0, 2, None), (2, 3, "room"))
        self.check(house, state_in("on"), 1, 1, (3, 1))
        longer = house_of(2, (0, 1, "win"), (1, 2, None), (0, 2, "room"))
        self.check(longer, state_in("on"), 2, 1, (0, 1))

    def test_never_is_later_than_all(self):
        house = house_of(3, (0, 1, None), (1, 2, None), (2, 3, "win"), (0, 3, None))
        self.check(house, state_in("on"), 3, 1, (3,))
        self.check(house, state_in("on"), 2, 1, (0, 1))
        hidden = house_of(4, (0, 1, None), (1, 2, None), (2, 3, None), (3, 4, "win"), (0, 4, "gate"))
        self.check(hidden, state_in("on"), 4, 18, (4,))
        self.check(hidden, state_in("on"), 4, 19, (0, 1, 2, 3))

    def test_the_least_of_several_that_are_as_late(self):
        house = house_of(2, (1, 2, "room"), (0, 1, None), (0, 1, None), (1, 2, "win"))
        self.check(house, state_in("on"), 2, 1, (1, 0))
        self.check(house_of(1, (0, 1, "win"), (0, 1, "room"), (0, 1, "d")), state_in("on"), 1, 1, (0,))

    def test_as_late_is_the_place_not_the_tick(self):
        house = house_of(1, (0, 1, "win"), (0, 1, "gate"))
        self.check(house, state_in("on"), 1, 100, (0,))
        self.check(house, state_in("on"), 1, 1, (1,))

    def test_the_least_of_several_that_are_never_caught(self):
        house = house_of(2, (0, 1, "win"), (0, 1, "room"), (1, 2, None), (0, 2, None))
        self.check(house, state_in("off"), 1, 1, (0,))
        self.check(house, state_in("off"), 2, 1, (0, 2))
        self.check(house, state_in("on", shunts=("room", "win")), 2, 1, (0, 2))
        self.check(house, state_in("on", shunts=("room",)), 2, 1, (1, 2))
        self.check(house, state_in("on"), 2, 1, (3,))

    def test_refused_where_there_is_no_way(self):
        for house, room in ((house_of(1), 1), (house_of(2, (1, 2, None)), 2), (HOUSE, 5), (HOUSE, 6)):
            for state in (state_in("off"), state_in("on")):
                with self.assertRaises(NoWay) as caught_it:
                    safest(WATCHED, house, state, room, 1)
                self.assertIs(type(caught_it.exception), NoWay)
                self.assertIsInstance(caught_it.exception, ValueError)
                self.assertNotIsInstance(caught_it.exception, (NoZone, NoDeed, NoText))

    def test_any_houses_by_rule(self):
        refused = 0
        for plan, house, state, pace in some_walks(47, 500):
            for room in range(1, house[0] + 1):
                if ways(house, room):
                    way = safest_by_rule(plan, house, state, room, pace)
                    self.assertEqual(safest(plan, house, state, room, pace), way, (plan, house, state, room, pace))
                else:
                    refused += 1
                    self.assertRaises(NoWay, safest, plan, house, state, room, pace)
        self.assertGreater(refused, 0)


class TestManyTicks(unittest.TestCase):
    def test_a_great_pace_takes_no_longer_than_a_thousand(self):
        for mode in ("off", "leaving", "on", "coming"):
            state = state_in(mode, {"in": "open"})
            for asked in (lambda pace: caught(WATCHED, HOUSE, state, (BARE, BARE, GATE, BARE), pace),
                          lambda pace: safest(WATCHED, HOUSE, state, 4, pace),
                          lambda pace: after(WATCHED, state, walked(HOUSE, (GATE, BARE), pace))):
                few = lines_run(lambda: asked(1000))
                for pace in (10**9, 10**200):
                    self.assertEqual(lines_run(lambda: asked(pace)), few)


if __name__ == "__main__":
    unittest.main()
