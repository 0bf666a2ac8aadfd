import copy
import inspect
import unittest

from doorwatch import plans
from doorwatch.errors import DoorError, NoZone
from doorwatch.plans import begun, is_event, is_plan, kind_of, who_of
from tests.samples import (
    CODES, EVENTS, HOUSE, PLAN, STRAY_THINGS, TIMES, ZONES, other_lengths, part_at, paths, put, with_lists,
)

LETTERS = "abcdefgh"
NAME_PATHS = ((0, 1, 0), (1, 1, 1))


def zones(many):
    return tuple((letter, "way") for letter in (LETTERS + "i")[:many])


def codes(many):
    return tuple((str(1000 + k), "who", ("set", "unset"), 0) for k in range(many))


class PlansCase(unittest.TestCase):
    def plan(self, thing, expected):
        self.assertIs(is_plan(thing), expected, thing)

    def with_part(self, path, part, expected):
        self.plan(put(PLAN, path, part), expected)


class TestIsPlan(PlansCase):
    def test_ordinary_plans(self):
        self.plan(PLAN, True)
        self.plan(((("a", "day"),), (("0123", "x", (), 0),), (0, 0, 1)), True)

    def test_things_of_other_kinds(self):
        for thing in STRAY_THINGS + (None, 0, 1, (), "plan", HOUSE, ZONES, CODES, TIMES) + EVENTS:
            self.plan(thing, False)

    def test_stray_things_at_each_place(self):
        for path in paths(PLAN):
            for thing in STRAY_THINGS + (None, 1.0, {}):
                self.with_part(path, thing, False)

    def test_empty_tuples_stand_for_rights_alone(self):
        for path in paths(PLAN):
            is_rights = len(path) == 3 and path[0] == 1 and path[2] == 2
            self.with_part(path, (), is_rights)

    def test_numbers_stand_for_no_text_and_texts_for_no_number(self):
        for path in paths(PLAN):
            part = part_at(PLAN, path)
            if isinstance(part, str):
                self.with_part(path, 1, False)
                self.with_part(path, (part,), False)
            elif isinstance(part, int):
                self.with_part(path, str(part), False)
                self.with_part(path, "day", False)

    def test_truths_are_no_numbers(self):
        for path in ((1, 0, 3), (2, 0), (2, 1), (2, 2)):
            self.with_part(path, 1, True)
            self.with_part(path, True, False)
            self.with_part(path, False, False)

    def test_lists_stand_nowhere(self):
        for thing in with_lists(PLAN):
            self.plan(thing, False)

    def test_tuples_one_longer_or_shorter(self):
        for path in ((), (0, 0), (0, 3), (1, 0), (1, 2), (2,)):
            for other in other_lengths(part_at(PLAN, path)):
                self.with_part(path, other, False)

    def test_names(self):
        for path in NAME_PATHS:
            for name in ("ca", "cz", "ccc", "cccc", "c"):
                self.with_part(path, name, True)
            for name in ("", "ccccc", "cC", "C", "c1", "1", "c_", "c ", " c", "c\n", "c`", "c{", "c\u00e9", "\u0441"):
                self.with_part(path, name, False)

    def test_kinds(self):
        for kind in ("day", "inner", "once", "way"):
            self.with_part((0, 2, 1), kind, True)
        for kind in ("Day", "", "ways", "da", "off", "open", "way ", ("way",), ["way"], 3, None):
            self.with_part((0, 2, 1), kind, False)

    def test_how_many_zones(self):
        for many in range(10):
            self.with_part((0,), zones(many), 1 <= many <= 8)

    def test_zones_rise_and_have_unlike_names(self):
        for some in (ZONES[::-1], ZONES + ZONES[:1], ZONES[:1] * 2, (ZONES[1], ZONES[0])):
            self.with_part((0,), some, False)
        self.with_part((0,), (("a", "day"), ("a", "way")), False)
        self.with_part((0,), (("b", "day"), ("a", "way")), False)
        self.with_part((0,), (("a", "way"), ("b", "day")), True)
        self.with_part((0,), (("a", "day"), ("aa", "day"), ("ab", "day"), ("b", "day")), True)
        self.with_part((0,), (("b", "day"), ("aa", "day")), False)

    def test_figures(self):
        for figures in ("0000", "0001", "0419"):
            self.with_part((1, 0, 0), figures, True)
        for figures in ("", "000", "00000", "00 0", "000a", "-000", "+000", "0.00", "00/0", "00:0", "000\n", 0, None):
            self.with_part((1, 0, 0), figures, False)
        for figures in ("\u0660\u0660\u0660\u0660", "000\u00b2", "\uff10000"):
            self.with_part((1, 0, 0), figures, False)

    def test_rights(self):
        for rights in ((), ("set",), ("shunt",), ("unset",), ("set", "shunt"), ("set", "unset"), ("shunt", "unset"),
                       ("set", "shunt", "unset")):
            self.with_part((1, 0, 2), rights, True)
        for rights in (("shunt", "set"), ("unset", "shunt"), ("unset", "set"), ("set", "unset", "shunt"),
                       ("set", "set"), ("set", "shunt", "unset", "unset"), ("free",), ("set", "free"), ("",),
                       ("set", 1), (1, 2), (None,), (("set",),), "set", "", None, 0, ["set"], (["set"], "set")):
            self.with_part((1, 0, 2), rights, False)

    def test_uses(self):
        for uses in range(-2, 12):
            self.with_part((1, 1, 3), uses, 0 <= uses <= 9)

    def test_how_many_codes(self):
        for many in range(9):
            self.with_part((1,), codes(many), 1 <= many <= 6)

    def test_codes_rise_and_have_unlike_figures(self):
        for some in (CODES[::-1], CODES + CODES[:1], CODES[:1] * 2, (CODES[2], CODES[1])):
            self.with_part((1,), some, False)
        self.with_part((1,), (("1111", "a", (), 0), ("1111", "b", ("set",), 1)), False)
        self.with_part((1,), (("2222", "a", (), 0), ("1111", "b", (), 0)), False)
        self.with_part((1,), (("1111", "b", ("set",), 1), ("2222", "a", (), 0)), True)
        self.with_part((1,), (("1111", "b", (), 0), ("2222", "b", (), 0)), True)

    def test_times(self):
        for number in (-1, 0, 1, 59, 60, 61, 299, 300, 301, 10**40):
            self.with_part((2, 0), number, 0 <= number <= 60)
            self.with_part((2, 1), number, 0 <= number <= 60)
            self.with_part((2, 2), number, 1 <= number <= 300)


class TestIsEvent(unittest.TestCase):
    def event(self, thing, expected):
        self.assertIs(is_event(PLAN, thing), expected, thing)

    def test_ordinary_events(self):
        for event in EVENTS:
            self.event(event, True)

    def test_things_of_other_kinds(self):
        for thing in STRAY_THINGS + (None, 0, 1, (), "line", ("line",), ("code",), ("ticks",), PLAN, HOUSE, EVENTS):
            self.event(thing, False)

    def test_stray_things_at_each_place(self):
        for event in EVENTS:
            for path in paths(event):
                for thing in STRAY_THINGS + ((), {}):
                    if thing != 10**30 or event[0] != "ticks" or path != (1,):
                        self.event(put(event, path, thing), False)

    def test_none_stands_behind_set_and_unset_alone(self):
        for event in EVENTS:
            for path in paths(event):
                changed = put(event, path, None)
                self.event(changed, changed == event)

    def test_lists_stand_nowhere(self):
        for event in EVENTS:
            self.event(list(event), False)
            for path in paths(event)[1:]:
                self.event(put(event, path, [part_at(event, path)]), False)

    def test_tuples_one_longer_or_shorter(self):
        for event in EVENTS:
            for other in other_lengths(event):
                self.event(other, False)

    def test_line(self):
        for name in ("back", "d", "hall", "win"):
            for what in ("shut", "open", "cut"):
                self.event(("line", name, what), True)
        for name in ("x", "bac", "backs", "Back", "", "day", "ann", None, 0, ("d",), ["d"], ("d", "day")):
            self.event(("line", name, "open"), False)
        for what in ("Open", "", "closed", "mended", "ope", None, 0, ("open",), ["open"]):
            self.event(("line", "d", what), False)

    def test_the_zones_are_those_of_the_plan(self):
        other = put(PLAN, (0,), (("x", "day"),))
        self.assertIs(is_event(other, ("line", "x", "open")), True)
        self.assertIs(is_event(other, ("line", "d", "open")), False)
        self.assertIs(is_event(other, ("code", "0000", "free", "x")), True)
        self.assertIs(is_event(other, ("code", "0000", "free", "d")), False)

    def test_code(self):
        for deed in ("set", "unset"):
            self.event(("code", "7777", deed, None), True)
            for zone in ("d", "x", "", 0, False, (), []):
                self.event(("code", "7777", deed, zone), False)
        for deed in ("shunt", "free"):
            self.event(("code", "7777", deed, "d"), True)
            for zone in ("x", "", None, 0, False, (), [], ("d",)):
                self.event(("code", "7777", deed, zone), False)
        for deed in ("Set", "", "undo", "open", None, 0, ("set",), ["set"]):
            self.event(("code", "7777", deed, None), False)
            self.event(("code", "7777", deed, "d"), False)

    def test_figures_need_not_be_the_plans(self):
        for figures in ("0000", "5678", "9999"):
            self.event(("code", figures, "set", None), True)
        for figures in ("000", "00000", "", "000a", "\u0660" * 4, 0, 1234, None, True, ("0000",)):
            self.event(("code", figures, "set", None), False)

    def test_ticks(self):
        for many in (1, 2, 1000, 10**9, 10**500):
            self.event(("ticks", many), True)
        for many in (0, -1, -(10**9), True, False, None, "1", "", (1,), [1], 1.0):
            self.event(("ticks", many), False)

    def test_the_words_in_front(self):
        for word in ("lines", "Line", "", "tick", "codes", None, 1, True, ("line",)):
            self.event((word, "d", "open"), False)
            self.event((word, 1), False)
            self.event((word, "0000", "set", None), False)
        self.event(("ticks", "d", "open"), False)
        self.event(("line", 1), False)
        self.event(("line", "0000", "set", None), False)


class TestAsked(unittest.TestCase):
    def test_kind_of(self):
        self.assertEqual([kind_of(PLAN, zone[0]) for zone in ZONES], [zone[1] for zone in ZONES])

    def test_kind_of_no_zone_is_refused(self):
        for name in ("x", "", "dd", "day", "ann", "0000", "zzzz"):
            for refusal in (NoZone, DoorError, ValueError):
                with self.subTest(name=name), self.assertRaises(refusal):
                    kind_of(PLAN, name)

    def test_who_of(self):
        self.assertEqual([who_of(PLAN, code[0]) for code in CODES], ["ann", "bob", "cy"])

    def test_who_of_other_figures_is_none(self):
        for figures in ("0001", "1234", "", "000", "00000", "ann"):
            self.assertIsNone(who_of(PLAN, figures))

    def test_begun(self):
        shut = ("shut", "shut", "shut", "shut")
        self.assertEqual(begun(PLAN), ("off", 0, None, shut, (), 0, (), 0, 0, (0, 0, 0)))

    def test_begun_has_a_line_for_each_zone_and_a_use_for_each_code(self):
        for many in range(1, 9):
            state = begun((zones(many), codes(1), TIMES))
            self.assertEqual(state, ("off", 0, None, ("shut",) * many, (), 0, (), 0, 0, (0,)))
        for many in range(1, 7):
            state = begun((zones(1), codes(many), TIMES))
            self.assertEqual(state, ("off", 0, None, ("shut",), (), 0, (), 0, 0, (0,) * many))

    def test_begun_is_of_the_kinds_told(self):
        state = begun(PLAN)
        kinds = (str, int, type(None), tuple, tuple, int, tuple, int, int, tuple)
        self.assertEqual(tuple(type(part) for part in state), kinds)
        self.assertEqual({type(number) for number in state[9]}, {int})


class TestTheWhole(unittest.TestCase):
    def test_arguments(self):
        wanted = {"is_plan": 1, "is_event": 2, "kind_of": 2, "who_of": 2, "begun": 1}
        for name, many in wanted.items():
            self.assertEqual(len(inspect.signature(getattr(plans, name)).parameters), many, name)

    def test_what_is_handed_in_is_not_changed(self):
        for thing in with_lists(PLAN) + list(STRAY_THINGS) + [list(event) for event in EVENTS]:
            before = copy.deepcopy(thing)
            is_plan(thing)
            is_event(PLAN, thing)
            self.assertEqual(thing, before)

    def test_asked_again_the_same_is_told(self):
        for _ in range(2):
            self.assertIs(is_plan(PLAN), True)
            self.assertIs(is_plan(ZONES), False)
            self.assertIs(is_event(PLAN, EVENTS[0]), True)
            self.assertEqual(kind_of(PLAN, "d"), "day")
            self.assertEqual(who_of(PLAN, "0420"), "bob")
            self.assertEqual(begun(PLAN), begun(PLAN))
            self.assertRaises(NoZone, kind_of, PLAN, "x")


if __name__ == "__main__":
    unittest.main()
