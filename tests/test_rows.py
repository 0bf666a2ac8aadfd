"""Rows (DOC.md 4.1)."""

import itertools
import unittest

from doorwatch.going import gone, words
from doorwatch.plans import begun
from doorwatch.rows import after, first_loud, shown, story
from tests.model import slow_row, some_rows
from tests.samples import LINES, MODES, WATCHED, state_in

OFF = begun(WATCHED)
SET = ("code", "0000", "set", None)
UNSET = ("code", "0000", "unset", None)
WRONG = ("code", "9876", "set", None)


def ticks(many):
    return ("ticks", many)


def line(zone, what):
    return ("line", zone, what)


class TestAfterAndStory(unittest.TestCase):
    def test_the_empty_row(self):
        for mode in MODES:
            state = state_in(mode, {"in": "open"}, ("win",), 5, ("d",), 1)
            self.assertEqual(after(WATCHED, state, ()), state)
            self.assertEqual(story(WATCHED, state, ()), ())
            self.assertIsNone(first_loud(WATCHED, state, ()))

    def test_an_ordinary_row(self):
        row = (SET, line("gate", "open"), ticks(10), line("gate", "shut"), ticks(25), line("in", "open"), ticks(5),
               line("win", "cut"), ticks(100), UNSET, line("win", "shut"), line("in", "shut"))
        told = (
            (0, "set", "ann"), (30, "on", None), (35, "coming", "in"), (40, "alarm", "win"), (55, "alarm", "in"),
            (140, "unset", "ann"), (140, "mended", "win"),
        )
        self.assertEqual(story(WATCHED, OFF, row), told)
        shut = ("shut",) * 5
        self.assertEqual(after(WATCHED, OFF, row), ("off", 0, None, shut, (), 0, ("win", "in"), 0, 0, (2, 0, 0, 0, 0)))

    def test_ticks_within_one_event_of_many(self):
        row = (ticks(7), SET, line("room", "open"), ticks(1000), line("gate", "open"), ticks(10**9), UNSET)
        told = (
            (7, "set", "ann"), (37, "on", None), (37, "alarm", "room"), (1007, "coming", "gate"),
            (1027, "alarm", "gate"), (10**9 + 1007, "unset", "ann"),
        )
        self.assertEqual(story(WATCHED, OFF, row), told)

    def test_ticks_until_the_very_one(self):
        for many in (29, 30, 31):
            told = story(WATCHED, OFF, (SET, ticks(many), UNSET))
            on = ((30, "on", None),) if many >= 30 else ()
            self.assertEqual(told, ((0, "set", "ann"),) + on + ((many, "unset", "ann"),))

    def test_several_words_of_one_event(self):
        row = (WRONG, WRONG, ticks(3), WRONG)
        told = ((0, "wrong", None), (0, "wrong", None), (3, "wrong", None), (3, "attack", None))
        self.assertEqual(story(WATCHED, OFF, row), told)

    def test_each_begins_with_no_ticks(self):
        state = after(WATCHED, OFF, (SET, ticks(500)))
        self.assertEqual(story(WATCHED, state, (line("win", "open"),)), ((0, "alarm", "win"),))

    def test_a_row_of_one_is_as_its_event(self):
        for plan, row in some_rows(41, 60, 12):
            state = begun(plan)
            for event in row:
                self.assertEqual(after(plan, state, (event,)), gone(plan, state, event))
                self.assertEqual(tuple(triple[1:] for triple in story(plan, state, (event,))),
                                 words(plan, state, event))
                state = gone(plan, state, event)

    def test_any_rows_as_told_slowly(self):
        for plan, row in some_rows(42, 600, 30):
            behind, told = slow_row(plan, begun(plan), row)
            self.assertEqual(after(plan, begun(plan), row), behind, (plan, row))
            self.assertEqual(story(plan, begun(plan), row), told, (plan, row))


class TestShown(unittest.TestCase):
    def test_no_zone_open_and_all(self):
        names = ("d", "gate", "in", "room", "win")
        for mode, siren in itertools.product(MODES, (0, 1, 120)):
            for what, open_ones in (("shut", ()), ("open", names), ("cut", names)):
                state = state_in(mode, dict.fromkeys(names, what), siren=siren)
                self.assertEqual(shown(WATCHED, state), (mode, siren > 0, open_ones))
                self.assertIs(type(shown(WATCHED, state)[1]), bool)

    def test_each_set_of_lines_in_order(self):
        names = [zone[0] for zone in WATCHED[0]]
        for lines in itertools.product(LINES, repeat=5):
            expected = tuple(name for name, what in zip(names, lines) if what != "shut")
            self.assertEqual(shown(WATCHED, state_in("on", dict(zip(names, lines))))[2], expected)

    def test_shunted_ones_and_alarms_are_all_one(self):
        state = state_in("on", {"in": "open", "win": "cut"}, ("in", "room"), 0, ("d", "gate"))
        self.assertEqual(shown(WATCHED, state), ("on", False, ("in", "win")))

    def test_one_zone(self):
        plan = ((("a", "way"),),) + WATCHED[1:]
        self.assertEqual(shown(plan, begun(plan)), ("off", False, ()))
        self.assertEqual(shown(plan, gone(plan, begun(plan), line("a", "cut"))), ("off", False, ("a",)))


class TestFirstLoud(unittest.TestCase):
    def loud(self, row, expected):
        self.assertEqual(first_loud(WATCHED, OFF, row), expected)

    def test_alarm(self):
        self.loud((ticks(4), line("d", "open"), ticks(1), line("d", "shut"), line("d", "cut")), (4, "alarm", "d"))
        self.loud((SET, ticks(40), line("gate", "open"), ticks(10**9)), (60, "alarm", "gate"))

    def test_attack(self):
        self.loud((WRONG, WRONG, ticks(2), WRONG, ticks(90), WRONG, WRONG, WRONG), (2, "attack", None))

    def test_both(self):
        attack = (WRONG, WRONG, WRONG)
        self.loud((line("d", "cut"), ticks(1)) + attack, (0, "alarm", "d"))
        self.loud(attack + (ticks(1), line("d", "cut")), (0, "attack", None))
        self.loud((SET, line("gate", "open"), ticks(20)) + attack + (ticks(10),), (20, "attack", None))
        self.loud((SET, line("gate", "open"), ticks(30)) + attack, (30, "alarm", "gate"))

    def test_none(self):
        self.loud((SET, ticks(1000), line("gate", "open"), ticks(19), UNSET, line("win", "cut"), WRONG, WRONG), None)

    def test_what_is_loud_already_is_not_told(self):
        state = state_in("on", {"win": "open"}, siren=50, alarms=("win",))
        self.assertIsNone(first_loud(WATCHED, state, (ticks(5), line("win", "shut"), line("win", "open"))))

    def test_it_is_the_first_such_of_the_story(self):
        for plan, row in some_rows(43, 300, 20):
            told = [triple for triple in story(plan, begun(plan), row) if triple[1] in ("alarm", "attack")]
            self.assertEqual(first_loud(plan, begun(plan), row), told[0] if told else None)


if __name__ == "__main__":
    unittest.main()
