"""What holds for all plans, states and rows (DOC.md 0.2 (a) to (e), 0.3, 0.5)."""

import copy
import random
import unittest

from doorwatch.going import gone, words
from doorwatch.plans import begun, kind_of
from doorwatch.rows import after, first_loud, shown, story
from doorwatch.watching import apart, fewest, quickest
from doorwatch.errors import NoWay
from tests.model import field, some_houses, some_plan, some_row, some_rows, steps, with_fields
from tests.samples import HOUSE, PLAN

KINDS = {tuple, str, int, bool, type(None)}


def kinds_within(thing):
    found = {type(thing)}
    if isinstance(thing, (tuple, list)):
        for part in thing:
            found |= kinds_within(part)
    return found


def ticks_of(row):
    return sum(event[1] for event in row if event[0] == "ticks")


def each_step(seed, many, events):
    for plan, row in some_rows(seed, many, events):
        for state, event in steps(plan, row):
            yield plan, state, event, gone(plan, state, event), words(plan, state, event)


class TestInParts(unittest.TestCase):
    def check(self, plan, row):
        state = begun(plan)
        whole, told = after(plan, state, row), story(plan, state, row)
        for k in range(len(row) + 1):
            between = after(plan, state, row[:k])
            past = ticks_of(row[:k])
            self.assertEqual(after(plan, between, row[k:]), whole, (plan, row, k))
            later = tuple((past + ticks, word, name) for ticks, word, name in story(plan, between, row[k:]))
            self.assertEqual(story(plan, state, row[:k]) + later, told, (plan, row, k))

    def test_rows_in_parts(self):
        for plan, row in some_rows(11, 80, 15):
            self.check(plan, row)

    def test_ticks_in_parts(self):
        chance = random.Random(12)
        for plan, row in some_rows(13, 200, 15):
            parts = []
            for event in row:
                if event[0] == "ticks" and event[1] > 1:
                    one = chance.randint(1, event[1] - 1)
                    parts.extend((("ticks", one), ("ticks", event[1] - one)))
                else:
                    parts.append(event)
            self.assertEqual(after(plan, begun(plan), row), after(plan, begun(plan), tuple(parts)))
            self.assertEqual(story(plan, begun(plan), row), story(plan, begun(plan), tuple(parts)))


class TestRights(unittest.TestCase):
    def test_set_unset_and_shunted_by_those_with_the_right_alone(self):
        for plan, state, event, behind, told in each_step(21, 400, 25):
            done = {word for word, _ in told} & {"set", "unset", "shunt", "free"}
            changed = field(behind, "shunts") != field(state, "shunts")
            begins = field(state, "mode") == "off" and field(behind, "mode") != "off"
            ends = field(state, "mode") != "off" and field(behind, "mode") == "off"
            if done or changed or begins or ends:
                place = [code[0] for code in plan[1]].index(event[1])
                _, _, rights, uses = plan[1][place]
                self.assertIn("shunt" if event[2] == "free" else event[2], rights)
                self.assertEqual(done, {event[2]})
                self.assertEqual(field(state, "locked"), 0)
                self.assertTrue(uses == 0 or field(state, "used")[place] < uses)
                self.assertEqual(sum(field(behind, "used")), sum(field(state, "used")) + 1)
            else:
                self.assertEqual(field(behind, "used"), field(state, "used"))

    def test_codes_used_up_and_codes_while_it_is_locked_do_nothing(self):
        for plan, state, event, behind, told in each_step(22, 400, 25):
            if event[0] == "code" and field(state, "locked") > 0:
                self.assertEqual((behind, told), (state, (("locked", None),)))
            elif event[0] == "code":
                for code, used in zip(plan[1], field(state, "used")):
                    if code[0] == event[1] and 0 < code[3] <= used:
                        self.assertEqual(told[0], ("wrong", None))
                        same = with_fields(behind, tries=field(state, "tries"), locked=0, siren=field(state, "siren"))
                        self.assertEqual(same, state)


class TestNoLineUnheard(unittest.TestCase):
    def is_heard(self, behind, zone, plan):
        return zone in field(behind, "alarms") and field(behind, "siren") == plan[2][2]

    def test_set_each_line_opened_is_heard_at_once_or_when_the_time_to_come_is_over(self):
        for plan, state, event, behind, told in each_step(23, 500, 25):
            if event[0] != "line" or field(state, "mode") not in ("on", "coming"):
                continue
            if event[2] == "shut" or event[1] in field(state, "shunts"):
                continue
            if field(state, "lines") == field(behind, "lines") or self.is_heard(behind, event[1], plan):
                continue
            self.assertEqual(field(behind, "mode"), "coming")
            over = gone(plan, behind, ("ticks", field(behind, "left")))
            self.assertTrue(self.is_heard(over, field(behind, "came"), plan), (plan, state, event))
            for code in plan[1]:
                unset = ("code", code[0], "unset", None)
                if words(plan, behind, unset) == (("unset", code[1]),):
                    self.assertEqual(story(plan, behind, (unset, ("ticks", 1000)))[1:], ())

    def test_lines_still_open_when_the_time_to_leave_is_over_are_heard(self):
        for plan, state, event, behind, told in each_step(24, 500, 25):
            if ("on", None) in told and told[-1] != ("on", None):
                self.assertEqual(told[0][0], "set" if event[0] == "code" else "on")
            if ("on", None) in told:
                for (name, kind), line in zip(plan[0], field(behind, "lines")):
                    if line != "shut" and kind in ("way", "inner") and name not in field(behind, "shunts"):
                        self.assertIn(name, field(behind, "alarms"))

    def test_unset_day_lines_alone_raise_alarms(self):
        for plan, state, event, behind, told in each_step(25, 400, 25):
            if field(state, "mode") == "off" and event[0] != "code":
                for word, name in told:
                    if word == "alarm":
                        self.assertEqual(kind_of(plan, name), "day")
                self.assertEqual(field(behind, "mode"), "off")


class TestShunts(unittest.TestCase):
    def test_what_is_shunted_raises_none(self):
        for plan, state, event, behind, told in each_step(26, 500, 25):
            for word, name in told:
                if word in ("alarm", "coming", "fault", "open"):
                    self.assertNotIn(name, field(state, "shunts"))
            if event[0] == "line" and event[1] in field(state, "shunts"):
                self.assertEqual(with_fields(behind, lines=field(state, "lines")), state)

    def test_it_is_shunted_no_more_when_it_is_unset(self):
        for plan, state, event, behind, told in each_step(27, 400, 25):
            if told and told[0][0] == "unset":
                self.assertEqual(field(behind, "shunts"), ())
            elif event[0] != "code":
                self.assertEqual(field(behind, "shunts"), field(state, "shunts"))


class TestLog(unittest.TestCase):
    def test_it_stands_in_order_of_time(self):
        for plan, row in some_rows(28, 400, 30):
            times = [triple[0] for triple in story(plan, begun(plan), row)]
            self.assertEqual(times, sorted(times))
            self.assertTrue(all(0 <= time <= ticks_of(row) for time in times))

    def test_each_alarm_once_until_it_is_set_anew(self):
        for plan, row in some_rows(29, 400, 40):
            heard = []
            for _, word, name in story(plan, begun(plan), row):
                if word == "set":
                    heard = []
                elif word == "alarm":
                    self.assertNotIn(name, heard)
                    heard.append(name)
            self.assertEqual(tuple(heard), field(after(plan, begun(plan), row), "alarms"))


class TestStates(unittest.TestCase):
    def check(self, plan, state):
        mode, left, came, lines, shunts, siren, alarms, tries, locked, used = state
        names = [zone[0] for zone in plan[0]]
        self.assertIn(mode, ("off", "leaving", "on", "coming"))
        self.assertEqual(left > 0, mode in ("leaving", "coming"))
        self.assertLessEqual(left, plan[2][0] if mode == "leaving" else plan[2][1])
        self.assertEqual(came is not None, mode == "coming")
        self.assertIn(came, names + [None])
        self.assertEqual(len(lines), len(names))
        self.assertTrue(set(lines) <= {"shut", "open", "cut"})
        self.assertEqual(list(shunts), sorted(set(shunts)))
        self.assertTrue(set(shunts) | set(alarms) <= set(names))
        self.assertEqual(len(alarms), len(set(alarms)))
        self.assertTrue(0 <= siren <= plan[2][2] and 0 <= tries <= 2 and 0 <= locked <= 90)
        self.assertEqual(len(used), len(plan[1]))
        for code, times in zip(plan[1], used):
            self.assertTrue(times >= 0 and (code[3] == 0 or times <= code[3]))
        self.assertEqual(tuple(type(part) for part in state if part is not came),
                         (str, int, tuple, tuple, int, tuple, int, int, tuple))

    def test_all_that_come_of_a_state_are_states(self):
        for plan, state, event, behind, told in each_step(30, 300, 25):
            self.check(plan, behind)


class TestToldAndHandedIn(unittest.TestCase):
    def test_lists_stand_nowhere(self):
        for plan, row in some_rows(31, 200, 20):
            state = begun(plan)
            told = (after(plan, state, row), story(plan, state, row), first_loud(plan, state, row),
                    shown(plan, after(plan, state, row)), gone(plan, state, row[0]), words(plan, state, row[0]))
            self.assertTrue(kinds_within(told) <= KINDS, kinds_within(told))
            numbers = (after(plan, state, row), story(plan, state, row))
            self.assertNotIn(bool, kinds_within(numbers))
        for house in some_houses(32, 60):
            for room in range(1, house[0] + 1):
                self.assertTrue(kinds_within((fewest(house, room), apart(house, room))) <= {tuple, int})

    def test_words_are_pairs_and_stories_triples(self):
        for plan, row in some_rows(33, 100, 20):
            self.assertTrue(all(len(triple) == 3 for triple in story(plan, begun(plan), row)))
            for state, event in steps(plan, row):
                self.assertTrue(all(len(pair) == 2 for pair in words(plan, state, event)))

    def test_what_is_handed_in_is_not_changed_and_asked_again_the_same_is_told(self):
        for plan, row in some_rows(34, 60, 20):
            state = after(plan, begun(plan), row[:10])
            before = copy.deepcopy((plan, state, row))
            asked = [lambda: after(plan, state, row), lambda: story(plan, state, row),
                     lambda: first_loud(plan, state, row), lambda: shown(plan, state),
                     lambda: gone(plan, state, row[10]), lambda: words(plan, state, row[10])]
            first = [ask() for ask in asked]
            self.assertEqual([ask() for ask in reversed(asked)][::-1], first)
            self.assertEqual((plan, state, row), before)

    def test_rows_of_one_plan_leave_those_of_another_alone(self):
        chance = random.Random(35)
        plan, other = some_plan(chance), some_plan(chance)
        row, another = some_row(chance, plan, 40), some_row(chance, other, 40)
        told = story(plan, begun(plan), row)
        story(other, begun(other), another)
        self.assertEqual(story(plan, begun(plan), row), told)

    def test_houses_are_not_changed_and_a_refusal_changes_nothing(self):
        before = copy.deepcopy(HOUSE)
        for _ in range(2):
            self.assertEqual(fewest(HOUSE, 3), (4,))
            self.assertEqual(apart(HOUSE, 3), ((0, 2, 4),))
            self.assertEqual(quickest(HOUSE, 3), (1, 4))
            self.assertRaises(NoWay, quickest, HOUSE, 4)
        self.assertEqual(HOUSE, before)

    def test_somewhat_beyond_the_bounds_nothing_is_refused(self):
        zones = tuple((letter * 5, "way") for letter in "abcdefghij")
        codes = tuple((str(1000 + k), "somebody", ("set", "unset"), 10) for k in range(8))
        plan = (zones, codes, (61, 75, 400))
        row = (("code", "1000", "set", None), ("ticks", 61), ("line", "jjjjj", "open"), ("ticks", 75), ("ticks", 399))
        told = ((0, "set", "somebody"), (61, "on", None), (61, "coming", "jjjjj"), (136, "alarm", "jjjjj"))
        self.assertEqual(story(plan, begun(plan), row), told)
        self.assertEqual(field(after(plan, begun(plan), row), "siren"), 1)
        at_once = (zones, codes, (-1, -1, 0))
        told = ((0, "set", "somebody"), (0, "on", None), (61, "alarm", "jjjjj"))
        self.assertEqual(story(at_once, begun(at_once), row), told)
        self.assertEqual(after(at_once, begun(at_once), row)[:3], ("on", 0, None))
        wide = (8, tuple((k, k + 1, None) for k in range(8)) + ((0, 4, None), (4, 8, None), (0, 8, None), (0, 8, None)))
        self.assertEqual(fewest(wide, 8), (0, 8, 10, 11))
        self.assertEqual(len(apart(wide, 8)), 4)
        self.assertEqual(quickest(wide, 8), (10,))


class TestOrdinaryDay(unittest.TestCase):
    def test_an_ordinary_day(self):
        state = begun(PLAN)
        row = (("code", "0420", "set", None), ("ticks", 30), ("line", "hall", "open"), ("ticks", 5),
               ("code", "0000", "unset", None))
        told = ((0, "set", "bob"), (30, "on", None), (30, "coming", "hall"), (35, "unset", "ann"))
        self.assertEqual(story(PLAN, state, row), told)
        self.assertEqual(shown(PLAN, after(PLAN, state, row)), ("off", False, ("hall",)))


if __name__ == "__main__":
    unittest.main()
