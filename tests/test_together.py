"""All modules together (DOC.md 0.1 to 0.3, and the interface)."""

import copy
import inspect
import random
import unittest

from doorwatch import boxes, errors, going, houses, plans, reading, rows, walking, watching, writing
from doorwatch.boxes import Box
from doorwatch.errors import NoDeed, NoText, NoWay, NoZone
from doorwatch.houses import unseen, ways
from doorwatch.plans import begun
from doorwatch.rows import after, first_loud, story
from doorwatch.walking import caught, safest, walked
from doorwatch.watching import fewest
from tests.model import some_houses, some_plan, some_row
from tests.samples import EVENTS, HOUSE, PLAN, STRAY_THINGS, WATCHED, as_lists, state_in, with_times
from tests.test_boxes import all_of, box_of, do
from tests.test_whole import KINDS, kinds_within

INTERFACE = {
    plans: {"is_plan": 1, "is_event": 2, "kind_of": 2, "who_of": 2, "begun": 1},
    houses: {"is_house": 1, "zones_of": 1, "unseen": 2, "ways": 2},
    going: {"gone": 3, "words": 3},
    rows: {"after": 3, "story": 3, "shown": 2, "first_loud": 3},
    watching: {"fewest": 2, "apart": 2, "quickest": 2},
    walking: {"walked": 3, "caught": 5, "safest": 5},
    writing: {"plan_text": 1, "house_text": 1, "row_text": 1},
    reading: {"read_plan": 1, "read_house": 1, "read_row": 2},
}
METHODS = {"line": 2, "code": 3, "ticks": 1, "state": 0, "shown": 0, "log": 0, "undo": 0, "row": 0}


def questions():
    """Each function of the interface with things to hand in, refused ones among them."""
    state = state_in("on", {"room": "open"}, ("win",), siren=7, alarms=("room",), tries=2, used=(3, 1, 0, 0, 0))
    house = (3, ((0, 1, "gate"), (1, 2, None), (0, 2, "win"), (2, 3, "d")))
    row = (("line", "gate", "open"), ("ticks", 5), ("code", "0000", "unset", None), ("line", "d", "cut"))
    found = [(plans.is_plan, (thing,)) for thing in STRAY_THINGS + (PLAN, as_lists(PLAN))]
    found += [(houses.is_house, (thing,)) for thing in STRAY_THINGS + (HOUSE, as_lists(HOUSE))]
    found += [(plans.is_event, (PLAN, thing)) for thing in STRAY_THINGS + EVENTS + (as_lists(EVENTS[0]),)]
    found += [(plans.kind_of, (PLAN, name)) for name in ("hall", "d", "nope")]
    found += [(plans.who_of, (PLAN, figures)) for figures in ("0000", "0420", "1111")]
    found += [(plans.begun, (plan,)) for plan in (PLAN, WATCHED)]
    found += [(houses.zones_of, (house,)), (houses.zones_of, (HOUSE,)), (houses.unseen, (house, ("win", "x")))]
    found += [(asked, (house, room)) for room in (1, 2, 3, 4)
              for asked in (houses.ways, watching.fewest, watching.apart, watching.quickest)]
    found += [(asked, (WATCHED, state, event)) for event in row for asked in (going.gone, going.words)]
    found += [(asked, (WATCHED, state, row)) for asked in (rows.after, rows.story, rows.first_loud)]
    found += [(rows.shown, (WATCHED, state)), (walking.walked, (house, (0, 1, 3, 3), 2))]
    found += [(walking.caught, (WATCHED, house, state, way, 2)) for way in ((), (0, 1), (2, 3), (1, 1))]
    found += [(walking.safest, (WATCHED, house, state, room, 2)) for room in (1, 2, 3, 4)]
    found += [(writing.plan_text, (PLAN,)), (writing.house_text, (house,)), (writing.row_text, (row,))]
    found += [(reading.read_plan, (text,)) for text in (writing.plan_text(PLAN), writing.plan_text(PLAN)[1:], "")]
    found += [(reading.read_house, (text,)) for text in (writing.house_text(house), writing.house_text(house)[1:], "")]
    found += [(reading.read_row, (WATCHED, text)) for text in (writing.row_text(row), writing.row_text(row)[1:], "")]
    return found


def answer(asked, given):
    try:
        return asked(*given)
    except errors.DoorError as refusal:
        return ("refused", type(refusal).__name__)


class TestAskedAgain(unittest.TestCase):
    def test_each_function_is_asked(self):
        asked = {question for question, _ in questions()}
        for module, functions in INTERFACE.items():
            for name in functions:
                self.assertIn(getattr(module, name), asked)

    def test_with_others_between_the_same_is_told_and_nothing_is_changed(self):
        chance = random.Random(71)
        known = questions()
        handed_in = copy.deepcopy([given for _, given in known])
        first = [answer(asked, given) for asked, given in known]
        told = copy.deepcopy(first)
        box, other = Box(WATCHED), Box(PLAN)
        for _ in range(3):
            order = list(range(len(known)))
            chance.shuffle(order)
            for k in order:
                self.assertEqual(answer(*known[k]), told[k], known[k])
                self.assertEqual(type(answer(*known[k])), type(told[k]), known[k])
                do(box, chance.choice((("ticks", 3), ("line", "gate", "open"), ("line", "gate", "shut"))))
            other.ticks(1)
        self.assertEqual([given for _, given in known], handed_in)
        self.assertEqual(first, told)

    def test_lists_stand_nowhere(self):
        for asked, given in questions():
            self.assertLessEqual(kinds_within(answer(asked, given)), KINDS, (asked, given))
        box = box_of(WATCHED, (("line", "d", "open"), ("ticks", 9)))
        self.assertLessEqual(kinds_within((all_of(box), box.line("d", "shut"), box.ticks(1), box.undo())), KINDS)

    def test_all_refusals_are_met(self):
        met = {answer(asked, given)[1] for asked, given in questions()
               if str(answer(asked, given)).startswith("('refused'")}
        self.assertEqual(met, {"NoZone", "NoWay", "NoText"})
        self.assertRaises(NoDeed, Box(PLAN).undo)
        self.assertRaises(NoZone, Box(PLAN).line, "nope", "open")


class TestTogether(unittest.TestCase):
    def test_a_box_told_again_from_texts(self):
        chance = random.Random(72)
        for _ in range(80):
            plan = some_plan(chance)
            box = box_of(plan, some_row(chance, plan, 15))
            again = reading.read_plan(writing.plan_text(plan))
            row = reading.read_row(again, writing.row_text(box.row()))
            self.assertEqual(all_of(box_of(again, row)), all_of(box))

    def test_one_who_walks_through_a_box(self):
        chance = random.Random(73)
        for house in some_houses(74, 150):
            plan = some_plan(chance)
            names = [zone[0] for zone in plan[0]]
            house = (house[0], tuple(opening[:2] + (opening[2] and chance.choice(names),) for opening in house[1]))
            if not house[1]:
                continue
            box = box_of(plan, some_row(chance, plan, 8))
            way = tuple(chance.randrange(len(house[1])) for _ in range(4))
            place, told = caught(plan, house, box.state(), way, 9), []
            for number in way:
                part = [do(box, event) for event in walked(house, (number,), 9)]
                told.append(any(word == "alarm" for pairs in part for word, _ in pairs))
            self.assertEqual(place, told.index(True) + 1 if any(told) else None)

    def test_rooms_come_to_unseen_are_those_that_are_walked_to_unheard(self):
        chance = random.Random(75)
        seen = set()
        for house in some_houses(76, 250):
            plan = some_plan(chance)
            plan = (plan[0], (("0000", "ann", ("set", "shunt", "unset"), 0),), (0, 0, 5))
            names = [zone[0] for zone in plan[0]]
            house = (house[0], tuple(opening[:2] + (opening[2] and chance.choice(names),) for opening in house[1]))
            shunts = tuple(name for name, kind in plan[0] if kind != "day" and chance.random() < 0.3)
            row = tuple(("code", "0000", "shunt", name) for name in shunts) + (("code", "0000", "set", None),)
            state = after(plan, begun(plan), row)
            self.assertEqual((state[0], state[4]), ("on", shunts))
            for room in range(1, house[0] + 1):
                if ways(house, room):
                    way = safest(plan, house, state, room, 3)
                    unheard = caught(plan, house, state, way, 3) is None
                    self.assertEqual(unheard, room in unseen(house, shunts), (plan, house, state, room))
                    seen.add(unheard)
                else:
                    self.assertNotIn(room, unseen(house, names))
                    self.assertRaises(NoWay, safest, plan, house, state, room, 3)
        self.assertEqual(seen, {True, False})

    def test_watched_as_told_none_comes_unheard(self):
        plan = with_times(WATCHED, 0, 0, 5)
        state = after(plan, begun(plan), (("code", "0000", "set", None),))
        for house in some_houses(77, 150):
            for room in range(1, house[0] + 1):
                if ways(house, room):
                    numbers = fewest(house, room)
                    openings = tuple(opening[:2] + ("win" if k in numbers else None,)
                                     for k, opening in enumerate(house[1]))
                    for way in ways(house, room):
                        self.assertIsNotNone(caught(plan, (house[0], openings), state, way, 1))

    def test_an_ordinary_night(self):
        plan = reading.read_plan("times 30 20 120\nzone back inner\nzone hall way\ncode 0420 ann 0 set unset\n")
        house = reading.read_house("rooms 2\n0 1 hall\n0 2 -\n1 2 back\n")
        box = Box(plan)
        box.code("0420", "set", None)
        box.ticks(30)
        self.assertEqual(unseen(house, ()), (0, 2))
        self.assertEqual(safest(plan, house, box.state(), 1, 5), (0,))
        self.assertEqual(safest(plan, house, box.state(), 1, 30), (1, 2))
        self.assertEqual(caught(plan, house, box.state(), (1, 2), 30), 2)
        for event in walked(house, (1, 2), 30):
            do(box, event)
        self.assertEqual(box.log(), ((0, "set", "ann"), (30, "on", None), (61, "alarm", "back")))
        self.assertEqual(first_loud(plan, begun(plan), box.row()), (61, "alarm", "back"))
        self.assertEqual(box.shown(), ("on", True, ()))
        text = ("code 0420 set\nticks 30\nticks 1\nticks 30\nline back open\nticks 1\nline back shut\nticks 30\n")
        self.assertEqual(writing.row_text(box.row()), text)


class TestSomewhatBeyondTheBounds(unittest.TestCase):
    def test_fewer_than_one_tick_are_none(self):
        for mode in ("off", "leaving", "on", "coming"):
            state = state_in(mode, {"gate": "open"}, siren=5, locked=3)
            for many in (0, -1, -5, -100):
                self.assertEqual(going.gone(WATCHED, state, ("ticks", many)), state)
                self.assertEqual(going.words(WATCHED, state, ("ticks", many)), ())
                later = (("ticks", 4), ("ticks", many), ("line", "d", "open"))
                self.assertEqual(story(WATCHED, state, later), ((4, "alarm", "d"),))

    def test_boxes_and_walkers(self):
        zones = tuple((letter * 5, "inner") for letter in "abcdefghij")
        plan = (zones, (("00000", "somebody", ("set",), 10),), (61, 75, 400))
        box = Box(plan)
        self.assertEqual(box.code("00000", "set", None), (("set", "somebody"),))
        self.assertEqual(box.ticks(61), (("on", None),))
        self.assertEqual(box.ticks(0), ())
        house = (9, ((0, 9, "aaaaa"), (0, 8, None), (8, 9, None)))
        self.assertEqual(walked(house, (1,), 0), (("ticks", 1), ("ticks", 0)))
        self.assertEqual(caught(plan, house, box.state(), (1, 2, 0), 0), 3)
        self.assertEqual(safest(plan, house, box.state(), 9, 0), (1, 2))


class TestInterface(unittest.TestCase):
    def test_functions(self):
        for module, functions in INTERFACE.items():
            for name, many in functions.items():
                asked = getattr(module, name)
                self.assertEqual(asked.__module__, module.__name__)
                self.assertEqual(len(inspect.signature(asked).parameters), many, name)

    def test_box(self):
        self.assertEqual(len(inspect.signature(boxes.Box).parameters), 1)
        for name, many in METHODS.items():
            self.assertEqual(len(inspect.signature(getattr(Box(PLAN), name)).parameters), many, name)

    def test_errors(self):
        below = (NoZone, NoWay, NoDeed, NoText)
        for one in below:
            self.assertEqual(one.__bases__, (errors.DoorError,))
        self.assertEqual(errors.DoorError.__bases__, (ValueError,))


if __name__ == "__main__":
    unittest.main()
