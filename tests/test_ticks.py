"""What ticks do (DOC.md 2.3), and that a great many take no longer than a thousand (0.3)."""

import sys
import unittest

from doorwatch.going import gone, words
from doorwatch.rows import after, first_loud, story
from tests.model import field, slow_row, with_fields
from tests.samples import WATCHED, state_in, with_times

LONG = with_times(WATCHED, 60, 60, 300)


def lines_run(deed):
    """How many lines of the program a deed takes; it is broken off where they are too many."""
    found = [0]

    def trace(frame, event, thing):
        found[0] += event == "line"
        if found[0] > 100000:
            raise RuntimeError("too many lines")
        return trace

    before = sys.gettrace()
    sys.settrace(trace)
    try:
        deed()
    finally:
        sys.settrace(before)
    return found[0]


class TicksCase(unittest.TestCase):
    def happens(self, state, many, behind, told, plan=WATCHED):
        self.assertEqual(gone(plan, state, ("ticks", many)), behind, (state, many))
        self.assertEqual(words(plan, state, ("ticks", many)), told, (state, many))


class TestCounts(TicksCase):
    def test_nothing_under_way(self):
        for mode in ("off", "on"):
            for many in (1, 1000, 10**9):
                self.happens(state_in(mode), many, state_in(mode), ())

    def test_lines_shunts_alarms_tries_and_used_stay(self):
        state = state_in("off", {"d": "cut", "in": "open"}, ("in", "win"), alarms=("win", "d"), tries=2,
                         used=(5, 9, 1, 0, 0))
        for many in (1, 1000, 10**9):
            self.happens(state, many, state, ())

    def test_siren_and_locked(self):
        for mode in ("off", "on"):
            for many, left in ((1, 4), (4, 1), (5, 0), (6, 0), (1000, 0), (10**9, 0)):
                self.happens(state_in(mode, siren=5), many, state_in(mode, siren=left), ())
                self.happens(state_in(mode, locked=5), many, state_in(mode, locked=left), ())

    def test_siren_and_locked_each_by_itself(self):
        state = state_in("off", siren=120, locked=90)
        for many, siren, locked in ((1, 119, 89), (89, 31, 1), (90, 30, 0), (91, 29, 0), (119, 1, 0), (120, 0, 0)):
            self.happens(state, many, state_in("off", siren=siren, locked=locked), ())


class TestLeaving(TicksCase):
    def test_fewer_just_as_many_and_more(self):
        state = state_in("leaving")
        self.happens(state, 1, with_fields(state, left=29), ())
        self.happens(state, 29, with_fields(state, left=1), ())
        for many in (30, 31, 1000, 10**9):
            self.happens(state, many, state_in("on"), (("on", None),))

    def test_zones_that_are_not_shut_raise_alarms_in_order(self):
        state = state_in("leaving", {"room": "open", "in": "cut", "gate": "open"})
        for many in (30, 31, 149, 150, 151, 10**9):
            siren = max(150 - many, 0)
            behind = with_fields(state, mode="on", left=0, siren=siren, alarms=("gate", "in", "room"))
            told = (("on", None), ("alarm", "gate"), ("alarm", "in"), ("alarm", "room"))
            self.happens(state, many, behind, told)
        self.happens(state, 29, with_fields(state, left=1), ())

    def test_shunted_ones_raise_none(self):
        state = state_in("leaving", {"room": "open", "in": "cut", "gate": "open"}, ("gate", "room"))
        self.happens(state, 30, with_fields(state, mode="on", left=0, siren=120, alarms=("in",)),
                     (("on", None), ("alarm", "in")))
        state = state_in("leaving", {"room": "open", "in": "cut"}, ("in", "room"))
        self.happens(state, 30, with_fields(state, mode="on", left=0), (("on", None),))

    def test_day_and_once_raise_none_then(self):
        for what in ("open", "cut"):
            state = state_in("leaving", {"d": what, "win": what}, alarms=("win",))
            self.happens(state, 30, with_fields(state, mode="on", left=0), (("on", None),))

    def test_ones_that_alarmed_already_are_loud_and_not_told_again(self):
        state = state_in("leaving", {"in": "cut", "room": "open"}, siren=5, alarms=("win", "in"))
        behind = with_fields(state, mode="on", left=0, siren=120, alarms=("win", "in", "room"))
        self.happens(state, 30, behind, (("on", None), ("alarm", "room")))
        state = state_in("leaving", {"in": "cut"}, alarms=("in",))
        self.happens(state, 32, with_fields(state, mode="on", left=0, siren=118), (("on", None),))

    def test_the_siren_goes_on_where_no_zone_raises_an_alarm(self):
        state = state_in("leaving", siren=40, alarms=("win",))
        self.happens(state, 30, with_fields(state, mode="on", left=0, siren=10), (("on", None),))


class TestComing(TicksCase):
    def test_fewer_just_as_many_and_more(self):
        state = state_in("coming", {"gate": "open"})
        self.happens(state, 1, with_fields(state, left=19), ())
        self.happens(state, 19, with_fields(state, left=1), ())
        for many in (20, 21, 139, 140, 141, 10**9):
            behind = with_fields(state, mode="on", left=0, came=None, siren=max(140 - many, 0), alarms=("gate",))
            self.happens(state, many, behind, (("alarm", "gate"),))

    def test_however_the_zone_is_by_then(self):
        for what in ("shut", "open", "cut"):
            state = state_in("coming", {"gate": what})
            behind = with_fields(state, mode="on", left=0, came=None, siren=120, alarms=("gate",))
            self.happens(state, 20, behind, (("alarm", "gate"),))

    def test_no_other_zone_raises_one_then(self):
        state = state_in("coming", {"gate": "open", "in": "open", "room": "cut", "win": "open", "d": "open"})
        behind = with_fields(state, mode="on", left=0, came=None, siren=120, alarms=("gate",))
        self.happens(state, 20, behind, (("alarm", "gate"),))

    def test_it_alarmed_already(self):
        state = state_in("coming", {"gate": "cut"}, siren=3, alarms=("win", "gate"))
        behind = with_fields(state, mode="on", left=0, came=None, siren=120)
        self.happens(state, 20, behind, ())


class TestOrder(TicksCase):
    def test_the_siren_is_less_ahead_of_the_alarm_of_the_same_tick(self):
        for siren in (0, 1, 20, 21, 300):
            state = state_in("coming", siren=siren)
            self.assertEqual(field(gone(WATCHED, state, ("ticks", 20)), "siren"), 120)
            self.assertEqual(field(gone(WATCHED, state, ("ticks", 21)), "siren"), 119)

    def test_loud_for_one_tick(self):
        plan = with_times(WATCHED, 30, 20, 1)
        state = state_in("coming", siren=1)
        self.assertEqual(field(gone(plan, state, ("ticks", 20)), "siren"), 1)
        self.assertEqual(field(gone(plan, state, ("ticks", 21)), "siren"), 0)

    def test_on_comes_ahead_of_the_alarms(self):
        told = words(WATCHED, state_in("leaving", {"gate": "open"}), ("ticks", 30))
        self.assertEqual(told, (("on", None), ("alarm", "gate")))

    def test_several_under_way_at_once(self):
        for mode in ("leaving", "coming"):
            for lines in ({}, {"gate": "open", "room": "cut"}):
                for siren, locked in ((1, 90), (19, 20), (20, 19), (30, 31), (31, 30), (300, 1)):
                    state = state_in(mode, lines, siren=siren, locked=locked)
                    for many in list(range(1, 34)) + [89, 90, 91, 149, 150, 151, 400]:
                        behind, told = slow_row(WATCHED, state, (("ticks", many),))
                        self.happens(state, many, behind, tuple(triple[1:] for triple in told))


class TestMany(TicksCase):
    def states(self):
        yield state_in("off", siren=300, locked=90)
        yield state_in("on", siren=299, locked=1)
        yield with_fields(state_in("leaving", {"in": "cut", "room": "open"}, siren=300, locked=90), left=60)
        yield with_fields(state_in("coming", {"gate": "open"}, siren=2, locked=90), left=60)

    def test_as_so_many_one_by_one(self):
        for state in self.states():
            for many in (1, 59, 60, 61, 89, 90, 91, 359, 360, 361, 1000):
                behind, told = slow_row(LONG, state, (("ticks", many),))
                self.happens(state, many, behind, tuple(triple[1:] for triple in told), LONG)
                singles = (("ticks", 1),) * many
                self.assertEqual(after(LONG, state, singles), behind)
                self.assertEqual(story(LONG, state, singles), told)

    def test_as_in_parts(self):
        for state in self.states():
            for one in (1, 30, 59, 60, 61, 90, 300, 10**9, 10**50):
                for other in (1, 29, 30, 60, 100, 1000, 10**9):
                    parts = (("ticks", one), ("ticks", other))
                    whole = (("ticks", one + other),)
                    self.assertEqual(after(LONG, state, parts), after(LONG, state, whole))
                    self.assertEqual(story(LONG, state, parts), story(LONG, state, whole))

    def test_a_thousand_million_and_more_are_as_a_thousand(self):
        for state in self.states():
            for many in (10**9, 10**9 + 7, 10**300):
                self.happens(state, many, gone(LONG, state, ("ticks", 1000)), words(LONG, state, ("ticks", 1000)), LONG)

    def test_they_take_no_longer_than_a_thousand(self):
        for state in self.states():
            for ask in (gone, words):
                thousand = lines_run(lambda: ask(LONG, state, ("ticks", 1000)))
                for many in (10**9, 10**300):
                    self.assertLessEqual(lines_run(lambda: ask(LONG, state, ("ticks", many))), thousand)
            for ask in (after, story, first_loud):
                thousand = lines_run(lambda: ask(LONG, state, (("ticks", 1000),) * 3))
                for many in (10**9, 10**300):
                    self.assertLessEqual(lines_run(lambda: ask(LONG, state, (("ticks", many),) * 3)), thousand)


if __name__ == "__main__":
    unittest.main()
