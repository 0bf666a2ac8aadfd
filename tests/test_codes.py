"""What codes do (DOC.md 3.1, 3.2)."""

import itertools
import unittest

from doorwatch.going import gone, words
from doorwatch.rows import after, story
from tests.model import field, with_fields
from tests.samples import MODES, WATCHED, state_in, with_times

ANN, BOB, CY, DI, ED = ("0000", "1111", "2222", "3333", "4444")
NO_LEAVE = with_times(WATCHED, 0, 20, 120)


def code(figures, deed, zone=None):
    return ("code", figures, deed, zone)


def used(place, many=1):
    return tuple(many if k == place else 0 for k in range(5))


WRONG = code("9876", "unset")


class CodesCase(unittest.TestCase):
    def happens(self, state, event, behind, *told, plan=WATCHED):
        self.assertEqual(gone(plan, state, event), behind, (state, event))
        self.assertEqual(words(plan, state, event), told, (state, event))

    def only_told(self, state, event, *told, plan=WATCHED):
        self.happens(state, event, state, *told, plan=plan)


class TestRights(CodesCase):
    def test_each_deed_without_the_right_in_each_mode(self):
        lacking = {"set": (CY, DI, ED), "unset": (BOB, DI, ED), "shunt": (BOB, CY, ED), "free": (BOB, CY, ED)}
        who = {BOB: "bob", CY: "cy", DI: "di", ED: "ed"}
        for deed, mode in itertools.product(lacking, MODES):
            for figures in lacking[deed]:
                for shunts in ((), ("in",)):
                    event = code(figures, deed, "in" if deed in ("shunt", "free") else None)
                    self.only_told(state_in(mode, {"gate": "open"}, shunts), event, ("denied", who[figures]))

    def test_denied_comes_ahead_of_no_and_of_open(self):
        self.only_told(state_in("off", {"win": "open"}), code(CY, "set"), ("denied", "cy"))
        self.only_told(state_in("on"), code(CY, "set"), ("denied", "cy"))
        self.only_told(state_in("off"), code(BOB, "shunt", "d"), ("denied", "bob"))
        self.only_told(state_in("off"), code(BOB, "free", "in"), ("denied", "bob"))

    def test_each_deed_with_its_right_alone(self):
        off = state_in("off")
        self.happens(off, code(BOB, "set"), with_fields(state_in("leaving"), used=used(1)), ("set", "bob"))
        self.happens(off, code(DI, "shunt", "in"), with_fields(off, shunts=("in",), used=used(3)), ("shunt", "in"))
        self.happens(state_in("off", shunts=("in",)), code(DI, "free", "in"), with_fields(off, used=used(3)),
                     ("free", "in"))
        self.happens(state_in("on"), code(CY, "unset"), with_fields(off, used=used(2)), ("unset", "cy"))

    def test_denied_uses_nothing_up(self):
        state = state_in("on")
        self.assertEqual(after(WATCHED, state, (code(CY, "set"),) * 5), state)
        self.assertEqual(words(WATCHED, after(WATCHED, state, (code(CY, "set"),) * 5), code(CY, "unset")),
                         (("unset", "cy"),))


class TestWrong(CodesCase):
    def test_figures_that_are_no_codes(self):
        for figures in ("0001", "9999", "5555"):
            for deed, zone in (("set", None), ("unset", None), ("shunt", "in"), ("free", "in"), ("shunt", "d")):
                for mode in MODES:
                    state = state_in(mode)
                    self.happens(state, code(figures, deed, zone), with_fields(state, tries=1), ("wrong", None))

    def test_the_third_in_a_row_is_an_attack(self):
        for mode in MODES:
            state = state_in(mode, siren=3, alarms=("d",), tries=2)
            self.happens(state, WRONG, with_fields(state, tries=0, locked=90, siren=120),
                         ("wrong", None), ("attack", None))
            self.happens(with_fields(state, tries=1), WRONG, state, ("wrong", None))
        told = story(WATCHED, state_in("off"), (WRONG, ("ticks", 5), code("1112", "set"), WRONG))
        self.assertEqual(told, ((0, "wrong", None), (5, "wrong", None), (5, "wrong", None), (5, "attack", None)))

    def test_two_and_a_right_one(self):
        state = state_in("off", tries=2)
        row = (WRONG, WRONG, code(ANN, "unset"), WRONG, WRONG)
        told = story(WATCHED, state_in("off"), row)
        self.assertEqual([triple[1] for triple in told], ["wrong", "wrong", "unset", "wrong", "wrong"])
        self.happens(state, code(ANN, "unset"), with_fields(state, tries=0, used=used(0)), ("unset", "ann"))

    def test_two_and_one_that_does_nothing_but_is_a_code(self):
        off = state_in("off")
        for state, event, told in (
            (off, code(ED, "set"), ("denied", "ed")),
            (state_in("on"), code(ANN, "set"), ("no", "ann")),
            (off, code(ANN, "shunt", "d"), ("no", "ann")),
            (state_in("off", {"d": "cut"}), code(ANN, "set"), ("open", "d")),
        ):
            self.happens(with_fields(state, tries=2), event, state, told)

    def test_wrong_and_right_ones_while_it_is_locked(self):
        for mode, locked in itertools.product(MODES, (1, 90)):
            state = state_in(mode, siren=9, tries=2, locked=locked, used=(0, 0, 1, 0, 0))
            for event in (WRONG, code(ANN, "unset"), code(ANN, "set"), code(ED, "set"), code(CY, "unset"),
                          code(ANN, "shunt", "in"), code(ANN, "free", "in")):
                self.only_told(state, event, ("locked", None))

    def test_the_tick_at_which_it_is_locked_no_more(self):
        locked = after(WATCHED, state_in("on"), (WRONG, WRONG, WRONG))
        for many, told in ((1, "locked"), (89, "locked"), (90, "unset"), (91, "unset"), (10**9, "unset")):
            state = gone(WATCHED, locked, ("ticks", many))
            self.assertEqual(words(WATCHED, state, code(ANN, "unset"))[0][0], told, many)
            self.assertEqual(words(WATCHED, state, WRONG), (("locked" if many < 90 else "wrong", None),))

    def test_tries_begin_anew_behind_the_attack(self):
        row = (WRONG, WRONG, WRONG, ("ticks", 90), WRONG, WRONG, WRONG)
        told = story(WATCHED, state_in("off"), row)
        self.assertEqual([triple[:2] for triple in told if triple[1] == "attack"], [(0, "attack"), (90, "attack")])


class TestUses(CodesCase):
    def plan(self, uses):
        return (WATCHED[0], (("5555", "flo", ("set", "shunt", "unset"), uses),), WATCHED[2])

    def told(self, uses, many):
        plan = self.plan(uses)
        state = state_in("off", used=(0,))
        found = []
        for _ in range(many):
            event = code("5555", "unset")
            found.append(words(plan, state, event)[0])
            state = gone(plan, state, event)
        return found, field(state, "used")

    def test_any_number_of_times(self):
        told, times = self.told(0, 50)
        self.assertEqual(told, [("unset", "flo")] * 50)
        self.assertEqual(times, (50,))

    def test_once_and_nine_times(self):
        for uses in (1, 2, 9):
            told, times = self.told(uses, uses + 2)
            self.assertEqual(told, [("unset", "flo")] * uses + [("wrong", None)] * 2)
            self.assertEqual(times, (uses,))

    def test_used_up_is_wrong_whatever_the_deed(self):
        plan = self.plan(1)
        for mode, (deed, zone) in itertools.product(MODES, (("set", None), ("unset", None), ("shunt", "in"))):
            state = state_in(mode, used=(1,))
            self.happens(state, code("5555", deed, zone), with_fields(state, tries=1), ("wrong", None), plan=plan)
            state = with_fields(state, tries=2)
            self.happens(state, code("5555", deed, zone), with_fields(state, tries=0, locked=90, siren=120),
                         ("wrong", None), ("attack", None), plan=plan)

    def test_used_up_comes_ahead_of_denied(self):
        state = state_in("off", used=(0, 0, 1, 0, 0))
        self.happens(state, code(CY, "set"), with_fields(state, tries=1), ("wrong", None))

    def test_each_deed_that_is_done_is_a_use_and_no_other(self):
        row = (code(ANN, "shunt", "in"), code(ANN, "shunt", "in"), code(ANN, "free", "in"), code(ANN, "free", "in"),
               ("line", "win", "open"), code(ANN, "set"), ("line", "win", "shut"), code(ANN, "set"),
               code(ANN, "set"), code(ANN, "shunt", "in"), code(ANN, "unset"))
        told = [triple[1:] for triple in story(WATCHED, state_in("off"), row)]
        self.assertEqual(told, [("shunt", "in"), ("no", "ann"), ("free", "in"), ("no", "ann"), ("open", "win"),
                                ("set", "ann"), ("no", "ann"), ("no", "ann"), ("unset", "ann")])
        self.assertEqual(field(after(WATCHED, state_in("off"), row), "used"), used(0, 4))

    def test_the_code_that_was_used_is_counted(self):
        state = state_in("off", used=(7, 8, 0, 2, 0))
        self.assertEqual(field(gone(WATCHED, state, code(BOB, "set")), "used"), (7, 9, 0, 2, 0))


class TestSet(CodesCase):
    def test_while_off(self):
        state = state_in("off", shunts=("in", "win"), siren=8, alarms=("win", "d"), tries=1)
        behind = with_fields(state, mode="leaving", left=30, siren=0, alarms=(), tries=0, used=used(0))
        self.happens(state, code(ANN, "set"), behind, ("set", "ann"))

    def test_in_other_modes(self):
        for mode in ("leaving", "on", "coming"):
            for lines in ({}, {"win": "open"}):
                self.only_told(state_in(mode, lines, siren=4, alarms=("win",)), code(ANN, "set"), ("no", "ann"))

    def test_once_and_day_zones_that_are_not_shut(self):
        for zone, what in itertools.product(("d", "win"), ("open", "cut")):
            state = state_in("off", {zone: what}, siren=4, alarms=("d",))
            self.only_told(state, code(ANN, "set"), ("open", zone))
            self.only_told(state, code(ANN, "set"), ("open", zone), plan=NO_LEAVE)
        self.only_told(state_in("off", {"d": "cut", "win": "open"}), code(ANN, "set"), ("open", "d"))

    def test_such_that_are_shunted(self):
        for what in ("open", "cut"):
            state = state_in("off", {"win": what}, ("win",))
            behind = with_fields(state, mode="leaving", left=30, used=used(0))
            self.happens(state, code(ANN, "set"), behind, ("set", "ann"))
            state = state_in("off", {"win": what, "d": what}, ("win",))
            self.only_told(state, code(ANN, "set"), ("open", "d"))

    def test_the_first_that_is_not_shunted_is_told(self):
        plan = ((("a", "once"), ("b", "once"), ("c", "once")),) + WATCHED[1:]
        state = with_fields(state_in("off"), lines=("open", "cut", "open"), shunts=("a",))
        self.only_told(state, code(ANN, "set"), ("open", "b"), plan=plan)

    def test_way_and_inner_zones_may_be_open_or_cut(self):
        for lines in ({"in": "open"}, {"room": "cut"}, {"gate": "cut", "in": "open", "room": "open"}):
            state = state_in("off", lines)
            behind = with_fields(state, mode="leaving", left=30, used=used(0))
            self.happens(state, code(ANN, "set"), behind, ("set", "ann"))

    def test_with_no_time_to_leave(self):
        state = state_in("off", siren=3, alarms=("d", "room"))
        self.happens(state, code(ANN, "set"), with_fields(state_in("on"), used=used(0)),
                     ("set", "ann"), ("on", None), plan=NO_LEAVE)

    def test_with_no_time_to_leave_and_zones_that_are_not_shut(self):
        state = state_in("off", {"room": "open", "gate": "cut", "in": "open", "win": "cut"}, ("in", "win"),
                         siren=3, alarms=("room",))
        behind = with_fields(state, mode="on", siren=120, alarms=("gate", "room"), used=used(0))
        self.happens(state, code(ANN, "set"), behind, ("set", "ann"), ("on", None), ("alarm", "gate"),
                     ("alarm", "room"), plan=NO_LEAVE)

    def test_the_time_to_leave_is_the_plans(self):
        for leave in (1, 2, 60):
            behind = gone(with_times(WATCHED, leave, 20, 120), state_in("off"), code(ANN, "set"))
            self.assertEqual((field(behind, "mode"), field(behind, "left")), ("leaving", leave))


class TestUnset(CodesCase):
    def test_in_each_mode_with_zones_shunted_and_the_siren_loud(self):
        for mode, siren, shunts in itertools.product(MODES, (0, 77), ((), ("in",), ("gate", "room", "win"))):
            state = state_in(mode, {"gate": "open", "win": "cut"}, shunts, siren, ("win", "d"), 1)
            behind = state_in("off", {"gate": "open", "win": "cut"}, (), 0, ("win", "d"), 0, 0, used(0))
            self.happens(state, code(ANN, "unset"), behind, ("unset", "ann"))

    def test_within_the_time_to_come_no_alarm_comes(self):
        row = (("line", "gate", "open"), ("ticks", 19), code(ANN, "unset"), ("ticks", 1000))
        self.assertEqual(story(WATCHED, state_in("on"), row), ((0, "coming", "gate"), (19, "unset", "ann")))

    def test_a_tick_too_late(self):
        row = (("line", "gate", "open"), ("ticks", 20), code(ANN, "unset"))
        told = ((0, "coming", "gate"), (20, "alarm", "gate"), (20, "unset", "ann"))
        self.assertEqual(story(WATCHED, state_in("on"), row), told)


class TestShuntAndFree(CodesCase):
    def test_shunt_in_each_mode(self):
        for zone in ("gate", "in", "room", "win"):
            for what in ("shut", "open", "cut"):
                state = state_in("off", {zone: what})
                behind = with_fields(state, shunts=(zone,), used=used(0))
                self.happens(state, code(ANN, "shunt", zone), behind, ("shunt", zone))
            for mode in ("leaving", "on", "coming"):
                self.only_told(state_in(mode), code(ANN, "shunt", zone), ("no", "ann"))

    def test_shunts_rise(self):
        for zones in itertools.permutations(("gate", "in", "win")):
            row = tuple(code(ANN, "shunt", zone) for zone in zones)
            self.assertEqual(field(after(WATCHED, state_in("off"), row), "shunts"), ("gate", "in", "win"))

    def test_shunt_of_a_day_zone(self):
        for mode in MODES:
            self.only_told(state_in(mode), code(ANN, "shunt", "d"), ("no", "ann"))

    def test_shunt_of_one_that_is_shunted(self):
        for mode in MODES:
            self.only_told(state_in(mode, shunts=("in", "win")), code(ANN, "shunt", "win"), ("no", "ann"))

    def test_free(self):
        state = state_in("off", {"in": "open"}, ("gate", "in", "win"))
        for zone, others in (("gate", ("in", "win")), ("in", ("gate", "win")), ("win", ("gate", "in"))):
            behind = with_fields(state, shunts=others, used=used(0))
            self.happens(state, code(ANN, "free", zone), behind, ("free", zone))

    def test_free_of_one_that_is_not_shunted(self):
        for mode, zone in itertools.product(MODES, ("d", "gate", "room")):
            self.only_told(state_in(mode, shunts=("in", "win")), code(ANN, "free", zone), ("no", "ann"))

    def test_free_in_other_modes(self):
        for mode in ("leaving", "on", "coming"):
            self.only_told(state_in(mode, shunts=("in", "win")), code(ANN, "free", "win"), ("no", "ann"))


if __name__ == "__main__":
    unittest.main()
