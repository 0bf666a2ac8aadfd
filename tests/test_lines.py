"""What a line does (DOC.md 2.1, 2.2)."""

import itertools
import unittest

from doorwatch.going import gone, words
from tests.model import field, with_fields
from tests.samples import LINES, MODES, WATCHED, state_in, with_times

# What comes of a line that is not shunted: by kind and what it becomes, in each mode in the order of MODES.
COMES = {
    ("day", "open"): ("alarm", "alarm", "alarm", "alarm"),
    ("day", "cut"): ("alarm", "alarm", "alarm", "alarm"),
    ("inner", "open"): (None, None, "alarm", None),
    ("inner", "cut"): ("fault", "alarm", "alarm", "alarm"),
    ("once", "open"): (None, "alarm", "alarm", "alarm"),
    ("once", "cut"): ("fault", "alarm", "alarm", "alarm"),
    ("way", "open"): (None, None, "coming", None),
    ("way", "cut"): ("fault", "alarm", "alarm", "alarm"),
}
AT_ONCE = with_times(WATCHED, 30, 0, 120)


class LinesCase(unittest.TestCase):
    def happens(self, plan, state, event, behind, told):
        self.assertEqual(gone(plan, state, event), behind, (plan, state, event))
        self.assertEqual(words(plan, state, event), told, (plan, state, event))

    def nothing(self, plan, state, event):
        self.happens(plan, state, event, state, ())


def each_case():
    for (name, kind), mode, before, what in itertools.product(WATCHED[0], MODES, LINES, LINES):
        if not (mode == "coming" and name == "gate"):
            yield name, kind, mode, before, what


class TestEachLine(LinesCase):
    def check(self, plan, state, name, kind, what):
        mode, before = field(state, "mode"), field(state, "lines")[[zone[0] for zone in plan[0]].index(name)]
        if what == before:
            self.nothing(plan, state, ("line", name, what))
            return
        lines = tuple(what if zone[0] == name else line for zone, line in zip(plan[0], field(state, "lines")))
        behind = with_fields(state, lines=lines)
        comes = COMES[kind, what][MODES.index(mode)] if what != "shut" else None
        told = ()
        if what == "shut":
            told = (("mended", name),) if before == "cut" else ()
        elif name in field(state, "shunts") or comes is None:
            pass
        elif comes == "fault":
            told = (("fault", name),)
        elif comes == "coming" and plan[2][1] > 0:
            behind = with_fields(behind, mode="coming", left=plan[2][1], came=name)
            told = (("coming", name),)
        else:
            behind = with_fields(behind, siren=plan[2][2])
            if name not in field(state, "alarms"):
                behind = with_fields(behind, alarms=field(state, "alarms") + (name,))
                told = (("alarm", name),)
        self.happens(plan, state, ("line", name, what), behind, told)

    def test_each_kind_in_each_mode_from_each_to_each(self):
        for name, kind, mode, before, what in each_case():
            for plan in (WATCHED, AT_ONCE):
                self.check(plan, state_in(mode, {name: before}), name, kind, what)

    def test_with_alarms_and_the_siren_loud_already(self):
        for name, kind, mode, before, what in each_case():
            others = tuple(zone[0] for zone in WATCHED[0] if zone[0] != name)
            for alarms in (others[::-1], others[:1] + (name,) + others[1:], (name,)):
                for plan in (WATCHED, AT_ONCE):
                    self.check(plan, state_in(mode, {name: before}, siren=7, alarms=alarms), name, kind, what)

    def test_shunted(self):
        for name, kind, mode, before, what in each_case():
            for plan in (WATCHED, AT_ONCE):
                self.check(plan, state_in(mode, {name: before}, (name,)), name, kind, what)

    def test_others_shunted_open_or_cut_are_all_one(self):
        for name, kind, mode, before, what in each_case():
            others = [zone[0] for zone in WATCHED[0] if zone[0] != name]
            lines = dict(zip(others, ("open", "cut", "open", "cut")))
            state = state_in(mode, {**lines, name: before}, tuple(others), tries=2, locked=5, used=(3, 9, 1, 0, 0))
            self.check(WATCHED, state, name, kind, what)


class TestSomeLines(LinesCase):
    def test_a_way_begins_the_time_to_come(self):
        behind = ("coming", 20, "in", ("shut", "shut", "open", "shut", "shut"), (), 0, (), 0, 0, (0, 0, 0, 0, 0))
        self.happens(WATCHED, state_in("on"), ("line", "in", "open"), behind, (("coming", "in"),))

    def test_a_way_with_no_time_to_come_raises_an_alarm(self):
        behind = ("on", 0, None, ("shut", "shut", "open", "shut", "shut"), (), 120, ("in",), 0, 0, (0, 0, 0, 0, 0))
        self.happens(AT_ONCE, state_in("on"), ("line", "in", "open"), behind, (("alarm", "in"),))

    def test_a_second_way_does_not_begin_it_anew(self):
        state = with_fields(state_in("coming"), left=3)
        behind = with_fields(state, lines=("shut", "shut", "open", "shut", "shut"))
        self.happens(WATCHED, state, ("line", "in", "open"), behind, ())

    def test_the_way_by_which_it_began_shut_and_opened_again(self):
        state = with_fields(state_in("coming", {"gate": "open"}), left=3)
        shut = with_fields(state, lines=("shut",) * 5)
        self.happens(WATCHED, state, ("line", "gate", "shut"), shut, ())
        self.happens(WATCHED, shut, ("line", "gate", "open"), state, ())

    def test_the_way_by_which_it_began_cut(self):
        state = state_in("coming", {"gate": "open"})
        lines = ("shut", "cut", "shut", "shut", "shut")
        behind = with_fields(state, lines=lines, siren=120, alarms=("gate",))
        self.happens(WATCHED, state, ("line", "gate", "cut"), behind, (("alarm", "gate"),))

    def test_alarms_stand_as_they_came(self):
        state = state_in("on", siren=1, alarms=("win", "d"))
        behind = with_fields(state, lines=("shut", "shut", "shut", "open", "shut"), siren=120,
                             alarms=("win", "d", "room"))
        self.happens(WATCHED, state, ("line", "room", "open"), behind, (("alarm", "room"),))

    def test_an_alarm_told_already_is_loud_anew_and_not_told_again(self):
        state = state_in("on", siren=1, alarms=("win", "room"))
        behind = with_fields(state, lines=("shut", "shut", "shut", "shut", "open"), siren=120)
        self.happens(WATCHED, state, ("line", "win", "open"), behind, ())

    def test_loud_is_the_plans(self):
        for loud in (1, 2, 300):
            plan = with_times(WATCHED, 30, 20, loud)
            self.assertEqual(field(gone(plan, state_in("off"), ("line", "d", "open")), "siren"), loud)

    def test_mended_is_told_of_what_was_cut_alone(self):
        for mode in MODES:
            self.assertEqual(words(WATCHED, state_in(mode, {"win": "cut"}), ("line", "win", "shut")),
                             (("mended", "win"),))
            self.assertEqual(words(WATCHED, state_in(mode, {"win": "open"}), ("line", "win", "shut")), ())
            self.assertEqual(words(WATCHED, state_in(mode, {"win": "cut"}, ("win",)), ("line", "win", "shut")),
                             (("mended", "win"),))

    def test_cut_lines_made_open_while_off(self):
        state = state_in("off", {"win": "cut"})
        behind = with_fields(state, lines=("shut", "shut", "shut", "shut", "open"))
        self.happens(WATCHED, state, ("line", "win", "open"), behind, ())


if __name__ == "__main__":
    unittest.main()
