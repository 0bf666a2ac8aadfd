"""A box (DOC.md 7.1; 0.2 (g); 0.3)."""

import copy
import random
import unittest

from doorwatch.boxes import Box
from doorwatch.errors import DoorError, NoDeed, NoText, NoWay, NoZone
from doorwatch.plans import begun, is_event
from doorwatch.rows import after, shown, story
from tests.model import slow_row, some_plan, some_row
from tests.samples import PLAN, WATCHED, with_times
from tests.test_ticks import lines_run

DAY = (("code", "0000", "set", None), ("ticks", 30), ("line", "gate", "open"), ("ticks", 5),
       ("code", "0000", "unset", None))


def do(box, event):
    """An event done to a box by its method."""
    if event[0] == "line":
        return box.line(event[1], event[2])
    if event[0] == "code":
        return box.code(event[1], event[2], event[3])
    return box.ticks(event[1])


def box_of(plan, row):
    box = Box(plan)
    for event in row:
        do(box, event)
    return box


def all_of(box):
    return (box.state(), box.shown(), box.log(), box.row())


def all_by_rule(plan, row):
    state, told = slow_row(plan, begun(plan), row)
    open_zones = tuple(zone[0] for zone, line in zip(plan[0], state[3]) if line != "shut")
    return (state, (state[0], state[5] > 0, open_zones), told, tuple(row))


class TestBegin(unittest.TestCase):
    def test_as_begun(self):
        for plan in (PLAN, WATCHED, with_times(WATCHED, 0, 0, 1)):
            box = Box(plan)
            self.assertEqual(box.state(), begun(plan))
            self.assertEqual(box.shown(), ("off", False, ()))
            self.assertEqual(box.log(), ())
            self.assertEqual(box.row(), ())


class TestDeeds(unittest.TestCase):
    def test_each_tells_its_words(self):
        box = Box(WATCHED)
        self.assertEqual(box.line("win", "cut"), (("fault", "win"),))
        self.assertEqual(box.line("win", "cut"), ())
        self.assertEqual(box.line("win", "shut"), (("mended", "win"),))
        self.assertEqual(box.code("0000", "shunt", "win"), (("shunt", "win"),))
        self.assertEqual(box.code("0000", "free", "win"), (("free", "win"),))
        self.assertEqual(box.code("1111", "unset", None), (("denied", "bob"),))
        self.assertEqual(box.code("9999", "set", None), (("wrong", None),))
        self.assertEqual(box.code("0000", "set", None), (("set", "ann"),))
        self.assertEqual(box.code("0000", "set", None), (("no", "ann"),))
        self.assertEqual(box.ticks(29), ())
        self.assertEqual(box.ticks(1), (("on", None),))
        self.assertEqual(box.line("gate", "open"), (("coming", "gate"),))
        self.assertEqual(box.ticks(20), (("alarm", "gate"),))
        self.assertEqual(box.line("room", "open"), (("alarm", "room"),))
        self.assertEqual(box.code("2222", "unset", None), (("unset", "cy"),))

    def test_several_words_of_one_deed(self):
        box = Box(WATCHED)
        box.line("gate", "open")
        box.line("room", "cut")
        box.code("1111", "set", None)
        self.assertEqual(box.ticks(30), (("on", None), ("alarm", "gate"), ("alarm", "room")))
        for _ in range(2):
            self.assertEqual(box.code("8888", "unset", None), (("wrong", None),))
        self.assertEqual(box.code("8888", "unset", None), (("wrong", None), ("attack", None)))
        self.assertEqual(box.code("0000", "unset", None), (("locked", None),))

    def test_state_shown_log_and_row_behind_them(self):
        box = box_of(WATCHED, DAY)
        told = ((0, "set", "ann"), (30, "on", None), (30, "coming", "gate"), (35, "unset", "ann"))
        self.assertEqual(box.log(), told)
        self.assertEqual(box.row(), DAY)
        self.assertEqual(box.shown(), ("off", False, ("gate",)))
        lines = ("shut", "open", "shut", "shut", "shut")
        self.assertEqual(box.state(), ("off", 0, None, lines, (), 0, (), 0, 0, (2, 0, 0, 0, 0)))

    def test_events_that_tell_nothing_stand_in_the_row(self):
        row = (("line", "gate", "shut"), ("ticks", 1), ("ticks", 1), ("line", "gate", "open"))
        box = box_of(WATCHED, row)
        self.assertEqual((box.row(), box.log()), (row, ()))

    def test_the_siren_is_shown(self):
        box = Box(WATCHED)
        box.line("d", "open")
        self.assertEqual(box.shown(), ("off", True, ("d",)))
        box.ticks(119)
        self.assertEqual(box.shown(), ("off", True, ("d",)))
        box.ticks(1)
        self.assertEqual(box.shown(), ("off", False, ("d",)))

    def test_any_rows_by_rule(self):
        chance = random.Random(51)
        for _ in range(150):
            plan = some_plan(chance)
            row = some_row(chance, plan, 20)
            box, state = Box(plan), begun(plan)
            for k, event in enumerate(row):
                state, told = slow_row(plan, state, (event,))
                self.assertEqual(do(box, event), tuple(triple[1:] for triple in told), (plan, row[:k + 1]))
                self.assertEqual(box.state(), state)
            self.assertEqual(all_of(box), all_by_rule(plan, row))
            self.assertTrue(all(is_event(plan, event) for event in box.row()))

    def test_it_is_as_rows_tell(self):
        chance = random.Random(52)
        for _ in range(100):
            plan = some_plan(chance)
            box = box_of(plan, some_row(chance, plan, 20))
            self.assertEqual(box.state(), after(plan, begun(plan), box.row()))
            self.assertEqual(box.log(), story(plan, begun(plan), box.row()))
            self.assertEqual(box.shown(), shown(plan, box.state()))


class TestManyTicks(unittest.TestCase):
    def test_a_thousand_million(self):
        box = Box(WATCHED)
        box.code("0000", "set", None)
        self.assertEqual(box.ticks(10**9), (("on", None),))
        self.assertEqual(box.ticks(10**9), ())
        box.line("room", "open")
        self.assertEqual(box.log(), ((0, "set", "ann"), (30, "on", None), (2 * 10**9, "alarm", "room")))
        self.assertEqual(box.row()[1:3], (("ticks", 10**9),) * 2)
        box.undo()
        box.undo()
        self.assertEqual(box.row(), (("code", "0000", "set", None), ("ticks", 10**9)))

    def test_they_take_no_longer_than_a_thousand(self):
        def deeds(many):
            box = box_of(WATCHED, DAY[:3])
            box.ticks(many)
            all_of(box)
            box.undo()
        few = lines_run(lambda: deeds(1000))
        for many in (10**9, 10**200):
            self.assertEqual(lines_run(lambda: deeds(many)), few)


class TestNoZone(unittest.TestCase):
    def refused(self, box, method, *arguments):
        before = all_of(box)
        for wider in (NoZone, DoorError, ValueError):
            with self.subTest(arguments=arguments), self.assertRaises(wider) as caught:
                method(*arguments)
            self.assertIs(type(caught.exception), NoZone)
            self.assertNotIsInstance(caught.exception, (NoDeed, NoWay, NoText))
            self.assertEqual(all_of(box), before)

    def boxes(self):
        locked = (("code", "7777", "set", None),) * 3
        return [box_of(WATCHED, row) for row in ((), DAY[:1], DAY[:2], DAY[:3], DAY, locked, locked[:2])]

    def test_line(self):
        for box in self.boxes():
            for zone in ("nope", "ga", "gates", "a", "", "GATE", "gate ", "-", "0000", "ann"):
                for what in ("shut", "open", "cut"):
                    self.refused(box, box.line, zone, what)

    def test_code(self):
        for box in self.boxes():
            for figures in ("0000", "3333", "1111", "4444", "8888"):
                for deed in ("shunt", "free"):
                    for zone in ("nope", "ga", "a", "", "-", "ann", None):
                        self.refused(box, box.code, figures, deed, zone)

    def test_code_to_set_or_unset_with_a_zone_that_there_is_not(self):
        for box in self.boxes():
            for deed in ("set", "unset"):
                self.refused(box, box.code, "0000", deed, "nope")

    def test_zones_of_another_plan(self):
        box = Box(PLAN)
        self.refused(box, box.line, "gate", "open")
        box.line("hall", "open")
        other = Box(WATCHED)
        self.refused(other, other.line, "hall", "open")

    def test_a_refused_code_is_no_try(self):
        box = Box(WATCHED)
        for _ in range(5):
            self.assertRaises(NoZone, box.code, "8888", "shunt", "nope")
        self.assertEqual(box.code("8888", "shunt", "win"), (("wrong", None),))
        self.assertEqual(box.state()[7:9], (1, 0))

    def test_undo_behind_a_refusal_takes_back_what_was_done_last(self):
        box = box_of(WATCHED, DAY[:2])
        self.assertRaises(NoZone, box.line, "nope", "open")
        box.undo()
        self.assertEqual(all_of(box), all_of(box_of(WATCHED, DAY[:1])))

    def test_no_zone_is_told_with_set_and_unset(self):
        box = Box(WATCHED)
        self.assertEqual(box.code("0000", "set", None), (("set", "ann"),))
        self.assertEqual(box.code("0000", "unset", None), (("unset", "ann"),))


class TestUndo(unittest.TestCase):
    def refused(self, box):
        before = all_of(box)
        for wider in (NoDeed, DoorError, ValueError):
            with self.assertRaises(wider) as caught:
                box.undo()
            self.assertIs(type(caught.exception), NoDeed)
            self.assertNotIsInstance(caught.exception, (NoZone, NoWay, NoText))
            self.assertEqual(all_of(box), before)

    def test_once(self):
        box = box_of(WATCHED, DAY)
        self.assertIsNone(box.undo())
        self.assertEqual(box.row(), DAY[:4])
        self.assertEqual(box.log(), ((0, "set", "ann"), (30, "on", None), (30, "coming", "gate")))
        self.assertEqual(box.shown(), ("coming", False, ("gate",)))
        self.assertEqual(box.state()[:3], ("coming", 15, "gate"))
        self.assertEqual(box.state()[9], (1, 0, 0, 0, 0))

    def test_step_by_step_to_the_begin_and_once_more(self):
        box = box_of(WATCHED, DAY)
        for k in reversed(range(len(DAY))):
            self.assertIsNone(box.undo())
            self.assertEqual(all_of(box), all_by_rule(WATCHED, DAY[:k]))
        self.assertEqual(all_of(box), all_of(Box(WATCHED)))
        self.refused(box)
        self.refused(box)

    def test_at_the_begin(self):
        box = Box(PLAN)
        self.refused(box)
        box.ticks(1)
        box.undo()
        self.refused(box)

    def test_events_that_changed_nothing_are_taken_back_one_by_one_too(self):
        box = box_of(WATCHED, (("line", "gate", "open"), ("line", "gate", "open"), ("ticks", 3)))
        box.undo()
        box.undo()
        self.assertEqual(box.row(), (("line", "gate", "open"),))
        self.assertEqual(box.shown(), ("off", False, ("gate",)))

    def test_an_event_of_many_ticks_is_one(self):
        box = box_of(WATCHED, (("line", "d", "open"), ("ticks", 100), ("ticks", 10**9)))
        box.undo()
        self.assertEqual(box.state()[5], 20)
        box.undo()
        self.assertEqual(box.state()[5], 120)

    def test_wrong_codes_taken_back_are_no_tries(self):
        box = box_of(WATCHED, (("code", "8888", "set", None),) * 3)
        self.assertEqual(box.code("0000", "set", None), (("locked", None),))
        box.undo()
        box.undo()
        self.assertEqual(box.state()[5:9], (0, (), 2, 0))
        self.assertEqual(box.code("0000", "set", None), (("set", "ann"),))

    def test_uses_taken_back_can_be_used_again(self):
        box = Box(WATCHED)
        for _ in range(3):
            self.assertEqual(box.code("2222", "unset", None), (("unset", "cy"),))
            box.undo()
        box.code("2222", "unset", None)
        self.assertEqual(box.code("2222", "unset", None), (("wrong", None),))

    def test_alarms_taken_back_are_told_again(self):
        box = Box(WATCHED)
        for _ in range(3):
            self.assertEqual(box.line("d", "open"), (("alarm", "d"),))
            box.undo()
            self.assertEqual(box.log(), ())

    def test_deeds_done_anew_behind_it(self):
        box = box_of(WATCHED, DAY)
        box.undo()
        box.undo()
        self.assertEqual(box.ticks(20), (("alarm", "gate"),))
        row = DAY[:3] + (("ticks", 20),)
        self.assertEqual(all_of(box), all_by_rule(WATCHED, row))
        self.assertEqual(box.log()[-1], (50, "alarm", "gate"))

    def test_a_box_whose_deeds_are_taken_back_is_as_it_was_ahead_of_them(self):
        chance = random.Random(53)
        for _ in range(150):
            plan = some_plan(chance)
            box = box_of(plan, some_row(chance, plan, chance.randint(0, 12)))
            ahead = all_of(box)
            row = some_row(chance, plan, chance.randint(1, 12))
            told = [do(box, event) for event in row]
            behind = all_of(box)
            for _ in row:
                box.undo()
            self.assertEqual(all_of(box), ahead)
            self.assertEqual([do(box, event) for event in row], told)
            self.assertEqual(all_of(box), behind)

    def test_any_deeds_and_undos_by_rule(self):
        chance = random.Random(54)
        for _ in range(60):
            plan = some_plan(chance)
            box, row = Box(plan), ()
            for event in some_row(chance, plan, 30):
                if chance.random() < 0.4:
                    if row:
                        self.assertIsNone(box.undo())
                    else:
                        self.assertRaises(NoDeed, box.undo)
                    row = row[:-1]
                else:
                    do(box, event)
                    row += (event,)
                self.assertEqual(all_of(box), all_by_rule(plan, row))


class TestApart(unittest.TestCase):
    def test_boxes_share_nothing_with_one_another(self):
        one, same, other = Box(WATCHED), Box(WATCHED), Box(PLAN)
        one.line("win", "open")
        other.line("win", "cut")
        self.assertEqual(all_of(same), all_of(Box(WATCHED)))
        self.assertRaises(NoDeed, same.undo)
        same.ticks(5)
        same.ticks(5)
        other.undo()
        self.assertEqual(one.row(), (("line", "win", "open"),))
        self.assertEqual(same.row(), (("ticks", 5), ("ticks", 5)))
        self.assertEqual(all_of(other), all_of(Box(PLAN)))

    def test_told_in_turn_by_rule(self):
        chance = random.Random(55)
        for _ in range(25):
            plan, another = some_plan(chance), some_plan(chance)
            plans = (plan, plan, another)
            boxes, rows = [Box(plan) for plan in plans], [(), (), ()]
            for _ in range(40):
                k = chance.randrange(3)
                if rows[k] and chance.random() < 0.3:
                    boxes[k].undo()
                    rows[k] = rows[k][:-1]
                else:
                    event = some_row(chance, plans[k], 1)[0]
                    do(boxes[k], event)
                    rows[k] += (event,)
            for box, own, row in zip(boxes, plans, rows):
                self.assertEqual(all_of(box), all_by_rule(own, row))


class TestAskedAgain(unittest.TestCase):
    def test_asked_twice_the_same_is_told(self):
        box = box_of(WATCHED, DAY)
        first = all_of(box)
        for _ in range(3):
            self.assertEqual((box.state(), box.shown(), box.log(), box.row()), first)
            self.assertEqual((box.row(), box.log(), box.shown(), box.state()), first[::-1])

    def test_what_was_told_stays_as_it_was(self):
        box = box_of(WATCHED, DAY[:3])
        told = all_of(box)
        before = copy.deepcopy(told)
        box.line("room", "open")
        box.ticks(100)
        for _ in range(4):
            box.undo()
        self.assertEqual(told, before)

    def test_the_plan_is_not_changed(self):
        before = copy.deepcopy(WATCHED)
        box = box_of(WATCHED, DAY)
        box.undo()
        self.assertEqual(WATCHED, before)

    def test_tuples_are_told(self):
        box = Box(WATCHED)
        self.assertEqual(type(box.ticks(1)), tuple)
        self.assertEqual([type(part) for part in all_of(box)], [tuple] * 4)
        self.assertEqual(type(box.shown()[2]), tuple)
        self.assertIs(box.shown()[1], False)

    def test_many_events(self):
        box = box_of(WATCHED, (("line", "gate", "open"), ("line", "gate", "shut")) * 3000)
        self.assertEqual(len(box.row()), 6000)
        for _ in range(6000):
            box.undo()
        self.assertRaises(NoDeed, box.undo)


if __name__ == "__main__":
    unittest.main()
