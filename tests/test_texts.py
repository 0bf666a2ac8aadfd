"""Plans, houses and rows as texts (DOC.md 8.1; 0.2 (h))."""

import random
import re
import unittest

from doorwatch.errors import DoorError, NoDeed, NoText, NoWay, NoZone
from doorwatch.houses import is_house
from doorwatch.plans import is_event, is_plan
from doorwatch.reading import read_house, read_plan, read_row
from doorwatch.writing import house_text, plan_text, row_text
from tests.model import some_houses, some_plan, some_row
from tests.samples import EVENTS, HOUSE, PLAN, WATCHED, with_times

PLAN_TEXT = """times 30 20 120
zone back inner
zone d day
zone hall way
zone win once
code 0000 ann 0 set shunt unset
code 0420 bob 9 set
code 9999 cy 1
"""
HOUSE_TEXT = """rooms 4
0 1 hall
0 2 -
1 2 -
1 2 back
2 3 hall
"""
ROW = EVENTS[:-1] + (("ticks", 1000000000),)
ROW_TEXT = """line back shut
line d open
line win cut
code 0000 set
code 1234 unset
code 0420 shunt hall
code 9999 free win
ticks 1
ticks 1000000000
"""

LEAST_PLAN = ((("a", "day"),), (("0000", "a", (), 0),), (0, 0, 1))
LEAST_PLAN_TEXT = "times 0 0 1\nzone a day\ncode 0000 a 0\n"
KINDS = ("day", "inner", "once", "way")
RIGHTS = ("set", "shunt", "unset")
GREAT_PLAN = (
    tuple((letter * 4, KINDS[k % 4]) for k, letter in enumerate("abcdefgz")),
    tuple((figures, "zzzz", RIGHTS, 9) for figures in ("0000", "0001", "0010", "0999", "5000", "9999")),
    (60, 60, 300),
)
GREAT_PLAN_TEXT = (
    "times 60 60 300\nzone aaaa day\nzone bbbb inner\nzone cccc once\nzone dddd way\nzone eeee day\nzone ffff inner\n"
    "zone gggg once\nzone zzzz way\ncode 0000 zzzz 9 set shunt unset\ncode 0001 zzzz 9 set shunt unset\n"
    "code 0010 zzzz 9 set shunt unset\ncode 0999 zzzz 9 set shunt unset\ncode 5000 zzzz 9 set shunt unset\n"
    "code 9999 zzzz 9 set shunt unset\n"
)

SIGNS = "".join(chr(k) for k in range(32, 127)) + "\n"
LIKELY_SIGNS = " \n0123456789-abcdefghilnorstuwyz+_."


def rising(things):
    return list(things) == sorted(set(things))


def is_plan_text(text):
    """By the words of DOC.md, nothing like the program."""
    rows = re.fullmatch(
        r"times (0|[1-9]\d?) (0|[1-9]\d?) ([1-9]\d{0,2})\n"
        r"((?:zone [a-z]{1,4} (?:day|inner|once|way)\n){1,8})"
        r"((?:code [0-9]{4} [a-z]{1,4} [0-9](?: set)?(?: shunt)?(?: unset)?\n){1,6})", text, re.ASCII)
    if not rows:
        return False
    names = [row.split()[1] for row in rows[4].splitlines()]
    figures = [row.split()[1] for row in rows[5].splitlines()]
    return (int(rows[1]) <= 60 and int(rows[2]) <= 60 and int(rows[3]) <= 300 and rising(names) and rising(figures))


def is_house_text(text):
    rows = re.fullmatch(r"rooms ([1-7])\n((?:[0-7] [0-7] (?:-|[a-z]{1,4})\n){0,10})", text)
    if not rows:
        return False
    return all(row[0] < row[2] <= rows[1] for row in rows[2].splitlines())


def is_row_text(plan, text):
    zone = "(?:" + "|".join(name for name, _ in plan[0]) + ")"
    row = rf"(?:line {zone} (?:shut|open|cut)|code [0-9]{{4}} (?:set|unset|(?:shunt|free) {zone})|ticks [1-9][0-9]*)\n"
    return re.fullmatch(f"(?:{row})*", text) is not None


def altered(chance, text):
    """The text with some signs or rows left out, put in, doubled, or in another order."""
    signs = chance.choice((SIGNS, LIKELY_SIGNS, LIKELY_SIGNS))
    for _ in range(chance.choice((1, 1, 1, 2, 3))):
        deed = chance.randrange(7)
        k = chance.randint(0, len(text))
        rows = text.splitlines(True)
        if deed == 0:
            text = text[:k] + chance.choice(signs) + text[k:]
        elif deed == 1:
            text = text[:k] + text[k + 1:]
        elif deed <= 3:
            text = text[:k] + chance.choice(signs) + text[k + 1:]
        elif deed == 4 and rows:
            rows.insert(chance.randrange(len(rows)), chance.choice(rows))
            text = "".join(rows)
        elif deed == 5 and rows:
            rows.remove(chance.choice(rows))
            text = "".join(rows)
        elif rows:
            chance.shuffle(rows)
            text = "".join(rows)
    return text


class TextCase(unittest.TestCase):
    def setUp(self):
        self.right = self.wrong = 0

    def refused(self, text, reads):
        for wider in (NoText, DoorError, ValueError):
            with self.subTest(text=text), self.assertRaises(wider) as caught:
                reads(text)
            self.assertIs(type(caught.exception), NoText)
            self.assertNotIsInstance(caught.exception, (NoZone, NoWay, NoDeed))

    def told(self, text, is_right, reads):
        """What is read of a text that is right; None of one that is not, which is to be refused."""
        if is_right:
            self.right += 1
            return reads(text)
        self.wrong += 1
        self.assertRaises(NoText, reads, text)
        return None

    def plan_refused(self, old, new):
        self.assertEqual(PLAN_TEXT.count(old), 1, old)
        self.refused(PLAN_TEXT.replace(old, new), read_plan)

    def house_refused(self, old, new):
        self.assertEqual(HOUSE_TEXT.count(old), 1, old)
        self.refused(HOUSE_TEXT.replace(old, new), read_house)

    def row_refused(self, old, new):
        self.assertEqual(ROW_TEXT.count(old), 1, old)
        self.refused(ROW_TEXT.replace(old, new), self.read_row)

    def read_row(self, text):
        return read_row(PLAN, text)

    def three(self):
        return ((PLAN_TEXT, read_plan), (HOUSE_TEXT, read_house), (ROW_TEXT, self.read_row))


class TestWritten(unittest.TestCase):
    def test_plans(self):
        self.assertEqual(plan_text(PLAN), PLAN_TEXT)
        self.assertEqual(plan_text(LEAST_PLAN), LEAST_PLAN_TEXT)
        self.assertEqual(plan_text(GREAT_PLAN), GREAT_PLAN_TEXT)

    def test_codes_with_each_set_of_rights(self):
        for rights, behind in (((), ""), (("set",), " set"), (("shunt", "unset"), " shunt unset"),
                               (RIGHTS, " set shunt unset")):
            plan = (PLAN[0], (("0012", "bob", rights, 3),), (1, 0, 9))
            self.assertEqual(plan_text(plan).splitlines()[-1], "code 0012 bob 3" + behind)

    def test_houses(self):
        self.assertEqual(house_text(HOUSE), HOUSE_TEXT)
        self.assertEqual(house_text((1, ())), "rooms 1\n")
        self.assertEqual(house_text((7, ((0, 7, None),) * 10)), "rooms 7\n" + "0 7 -\n" * 10)
        self.assertEqual(house_text((2, ((1, 2, "abcd"), (0, 1, "z")))), "rooms 2\n1 2 abcd\n0 1 z\n")

    def test_rows(self):
        self.assertEqual(row_text(ROW), ROW_TEXT)
        for event, text in zip(ROW, ROW_TEXT.splitlines(True)):
            self.assertEqual(row_text((event,)), text)

    def test_the_empty_row_is_the_text_of_no_signs(self):
        self.assertEqual(row_text(()), "")

    def test_a_great_many_ticks(self):
        for many in (10**63, 10**64 - 1, 10**64, 10**64 + 7, 10**128, 10**200 + 10**70):
            self.assertEqual(row_text((("ticks", many),)), f"ticks {many}\n")
        self.assertEqual(row_text((("ticks", 10**6000),)), "ticks 1" + "0" * 6000 + "\n")
        self.assertEqual(row_text((("ticks", 10**6000 - 1),)), "ticks " + "9" * 6000 + "\n")

    def test_the_signs_of_texts(self):
        for text in (PLAN_TEXT, HOUSE_TEXT, ROW_TEXT):
            self.assertTrue(set(text) <= set(SIGNS))

    def test_somewhat_beyond_the_bounds_nothing_is_refused(self):
        plan = ((("abcde", "day"),), (("00000", "somebody", ("set",), 10),), (61, 100, 301))
        self.assertEqual(plan_text(plan), "times 61 100 301\nzone abcde day\ncode 00000 somebody 10 set\n")
        self.assertEqual(house_text((10, ((9, 10, None),))), "rooms 10\n9 10 -\n")
        self.assertEqual(row_text((("ticks", 0), ("line", "abcde", "open"))), "ticks 0\nline abcde open\n")


class TestRead(unittest.TestCase):
    def test_plans(self):
        for text, plan in ((PLAN_TEXT, PLAN), (LEAST_PLAN_TEXT, LEAST_PLAN), (GREAT_PLAN_TEXT, GREAT_PLAN)):
            self.assertEqual(read_plan(text), plan)

    def test_houses(self):
        for house in (HOUSE, (1, ()), (7, ((0, 7, None),) * 10), (2, ((1, 2, "abcd"), (0, 1, "z")))):
            self.assertEqual(read_house(house_text(house)), house)
        self.assertEqual(read_house(HOUSE_TEXT), HOUSE)
        self.assertEqual(read_house("rooms 1\n"), (1, ()))

    def test_rows(self):
        self.assertEqual(read_row(PLAN, ROW_TEXT), ROW)
        self.assertEqual(read_row(PLAN, ""), ())
        for event, text in zip(ROW, ROW_TEXT.splitlines(True)):
            self.assertEqual(read_row(PLAN, text), (event,))

    def test_a_great_many_ticks(self):
        for many in (10**9, 10**64, 10**200, 10**6000, 10**6000 - 1):
            self.assertEqual(read_row(PLAN, row_text((("ticks", many),))), (("ticks", many),))

    def test_figures_of_codes_with_noughts_ahead(self):
        for figures in ("0000", "0001", "0100", "0420"):
            plan = (PLAN[0], ((figures, "ann", (), 0),), (0, 0, 1))
            self.assertEqual(read_plan(plan_text(plan)), plan)
            row = (("code", figures, "set", None), ("code", figures, "free", "win"))
            self.assertEqual(read_row(PLAN, row_text(row)), row)

    def test_figures_that_no_code_has(self):
        self.assertEqual(read_row(PLAN, "code 7777 unset\n"), (("code", "7777", "unset", None),))

    def test_names_like_words_of_the_texts(self):
        plan = ((("code", "day"), ("line", "way"), ("open", "once"), ("set", "inner"), ("zone", "day")),
                (("1234", "code", ("set",), 1), ("5678", "zone", (), 0)), (1, 2, 3))
        self.assertEqual(read_plan(plan_text(plan)), plan)
        row = (("line", "open", "open"), ("code", "1234", "shunt", "code"), ("line", "line", "cut"),
               ("code", "1234", "free", "set"), ("code", "1234", "set", None))
        self.assertEqual(read_row(plan, row_text(row)), row)
        house = (2, ((0, 1, "line"), (0, 2, "code")))
        self.assertEqual(read_house(house_text(house)), house)

    def test_kinds_of_what_is_read(self):
        self.assertEqual([type(part) for part in read_plan(PLAN_TEXT)], [tuple] * 3)
        self.assertEqual([type(time) for time in read_plan(PLAN_TEXT)[2]], [int] * 3)
        self.assertEqual([type(code) for code in read_plan(PLAN_TEXT)[1]], [tuple] * 3)
        self.assertEqual([type(opening) for opening in read_house(HOUSE_TEXT)[1]], [tuple] * 5)
        self.assertEqual({type(event) for event in read_row(PLAN, ROW_TEXT)}, {tuple})


class TestToldByOneAnother(unittest.TestCase):
    def test_any_plans(self):
        chance = random.Random(61)
        for _ in range(400):
            plan = some_plan(chance)
            text = plan_text(plan)
            self.assertTrue(is_plan_text(text), text)
            self.assertEqual(read_plan(text), plan)
            self.assertEqual(plan_text(read_plan(text)), text)

    def test_any_houses(self):
        for house in some_houses(62, 400):
            text = house_text(house)
            self.assertTrue(is_house_text(text), text)
            self.assertEqual(read_house(text), house)
            self.assertEqual(house_text(read_house(text)), text)

    def test_any_rows(self):
        chance = random.Random(63)
        for _ in range(300):
            plan = some_plan(chance)
            row = some_row(chance, plan, chance.randint(0, 25))
            text = row_text(row)
            self.assertTrue(is_row_text(plan, text), text)
            self.assertEqual(read_row(plan, text), row)
            self.assertEqual(row_text(read_row(plan, text)), text)

    def test_all_times_and_uses(self):
        for time in range(61):
            plan = with_times(PLAN, time, 60 - time, 5 * time or 1)
            self.assertEqual(read_plan(plan_text(plan)), plan)
        for uses in range(10):
            plan = (PLAN[0], (("0000", "ann", ("unset",), uses),), PLAN[2])
            self.assertEqual(read_plan(plan_text(plan)), plan)

    def test_unlike_things_have_unlike_texts(self):
        chance = random.Random(64)
        rows = {row_text(row): row for row in (some_row(chance, WATCHED, chance.randint(0, 2)) for _ in range(3000))}
        self.assertEqual(len(set(rows.values())), len(rows))


class TestNoTextAtAll(TextCase):
    def test_little_texts(self):
        for _, reads in self.three():
            for sign in SIGNS:
                self.refused(sign, reads)
            for text in ("\n\n", "  ", " \n", "\n ", "-", "0", "plan", "house", "None", "()", "((), (), ())"):
                self.refused(text, reads)

    def test_the_empty_text(self):
        self.refused("", read_plan)
        self.refused("", read_house)

    def test_words_by_themselves(self):
        for word in ("times", "zone", "code", "rooms", "line", "ticks", "set", "day", "open", "0000", "a"):
            for text in (word, word + "\n", word + " \n", " " + word + "\n", word + "\n\n"):
                for _, reads in self.three():
                    self.refused(text, reads)

    def test_texts_of_the_others(self):
        texts = self.three()
        for text, right in texts:
            for _, reads in texts:
                if reads != right:
                    self.refused(text, reads)

    def test_blanks_ahead_behind_or_two_together(self):
        for text, reads in self.three():
            for k, sign in enumerate(text):
                if k == 0 or sign in " \n" or text[k - 1] == "\n":
                    self.refused(text[:k] + " " + text[k:], reads)
            self.refused(text + " ", reads)

    def test_blanks_left_out(self):
        for text, reads in self.three():
            for k, sign in enumerate(text):
                if sign == " ":
                    self.refused(text[:k] + text[k + 1:], reads)

    def test_row_ends_too_many_or_too_few(self):
        for text, reads in self.three():
            self.refused(text[:-1], reads)
            self.refused(text + "\n", reads)
            self.refused("\n" + text, reads)
            for k, sign in enumerate(text):
                if sign == "\n":
                    self.refused(text[:k] + "\n" + text[k:], reads)
                    self.refused(text[:k] + "\n \n" + text[k + 1:], reads)
                    self.refused(text[:k] + text[k + 1:], reads)
                    self.refused(text[:k] + " " + text[k + 1:], reads)
                elif sign == " ":
                    self.refused(text[:k] + "\n" + text[k + 1:], reads)

    def test_texts_broken_off(self):
        for text, reads in self.three():
            for k in range(1, len(text)):
                if text[k - 1] != "\n":
                    self.refused(text[:k], reads)

    def test_other_signs_than_may_be(self):
        for text, reads in self.three():
            for sign in ("\t", "\r", "\0", "\u00a0", "\u0661", "\u00b2", "\x0b", "\u2028"):
                self.refused(text.replace(" ", sign, 1), reads)
                self.refused(text.replace("1", sign, 1), reads)
                self.refused(text.replace("\n", sign, 1), reads)
            self.refused(text.replace("\n", "\r\n"), reads)
            self.refused(text.upper(), reads)

    def test_remarks(self):
        for text, reads in self.three():
            self.refused("# so\n" + text, reads)
            self.refused(text + "# so\n", reads)
            self.refused(text[:-1] + " # so\n", reads)


class TestNoPlans(TextCase):
    def test_rows_in_another_order(self):
        rows = PLAN_TEXT.splitlines(True)
        for k in range(len(rows)):
            for j in range(k):
                other = list(rows)
                other[k], other[j] = other[j], other[k]
                self.refused("".join(other), read_plan)
        self.refused("".join(rows[1:] + rows[:1]), read_plan)
        self.refused("".join(rows[:1] + rows[5:] + rows[1:5]), read_plan)

    def test_rows_twice(self):
        rows = PLAN_TEXT.splitlines(True)
        for k, row in enumerate(rows):
            self.refused("".join(rows[:k] + [row] + rows[k:]), read_plan)
            self.refused("".join(rows + [row]), read_plan)

    def test_rows_left_out(self):
        rows = PLAN_TEXT.splitlines(True)
        self.refused("".join(rows[1:]), read_plan)
        self.refused("".join(rows[:1] + rows[5:]), read_plan)
        self.refused("".join(rows[:5]), read_plan)
        self.refused(rows[0], read_plan)

    def test_rows_of_other_words(self):
        for word in ("time", "Times", "zones", "codes", "", "rooms", "line", "ticks"):
            for old in ("times 30", "zone back", "code 0420"):
                self.plan_refused(old, word + " " + old.split()[1])
        self.refused(PLAN_TEXT + "rooms 4\n", read_plan)

    def test_numbers(self):
        for bad in ("030", "+30", "-30", "-0", "00", "3e1", "3.0", "0x1e", "3_0", "", "x", "61", "100", "300", "10" * 99):
            self.plan_refused("times 30 ", f"times {bad} ")
        for bad in ("020", "+20", "-1", "00", "61", "", "x"):
            self.plan_refused(" 20 120", f" {bad} 120")
        for bad in ("0120", "+120", "-120", "0", "301", "1000", "", "x", "9" * 6000):
            self.plan_refused(" 20 120", f" 20 {bad}")
        for bad in ("09", "+9", "-9", "10", "99", "", "x", "00"):
            self.plan_refused("bob 9", f"bob {bad}")

    def test_times_too_few_or_too_many(self):
        for times in ("", " 30", " 30 20", " 30 20 120 1", " 30 20 120 x"):
            self.plan_refused(" 30 20 120", times)

    def test_zones(self):
        for bad in ("zone back", "zone back inner day", "zone inner", "zone Back inner", "zone abcde inner", "zone b1 inner",
                    "zone back Inner", "zone back night", "zone back in", "zone - inner", "zone  inner", "zone"):
            self.plan_refused("zone back inner", bad)

    def test_zones_that_do_not_rise_or_have_like_names(self):
        self.plan_refused("zone back inner", "zone e inner")
        self.plan_refused("zone back inner", "zone d inner")
        self.plan_refused("zone win once", "zone hall way")
        self.plan_refused("zone win once", "zone hall once")
        self.plan_refused("zone win once", "zone hal once")

    def test_too_many_zones_or_codes(self):
        rows = GREAT_PLAN_TEXT.splitlines(True)
        self.refused("".join(rows[:9] + ["zone zzzzz way\n"] + rows[9:]), read_plan)
        self.refused("".join(rows[:1] + ["zone a way\n"] + rows[1:]), read_plan)
        self.refused("".join(rows[:11] + ["code 0002 ann 0\n"] + rows[11:]), read_plan)

    def test_codes(self):
        for bad in ("code 0420 bob", "code 0420", "code", "code 0420 9 set", "code bob 9 set", "code 420 bob 9 set",
                    "code 00420 bob 9 set", "code 042x bob 9 set", "code 0420 Bob 9 set", "code 0420 bobby 9 set",
                    "code 0420 b0b 9 set", "code 0420 bob set 9", "code 0420 bob set", "code 0420 - 9 set",
                    "code -420 bob 9 set", "code +420 bob 9 set"):
            self.plan_refused("code 0420 bob 9 set", bad)

    def test_rights(self):
        for bad in ("free", "Set", "sets", "9", "-", "set set", "shunt set", "unset set", "unset shunt",
                    "set shunt unset set", "set unset shunt", "set set shunt unset", "set, unset", "none"):
            self.plan_refused("bob 9 set", f"bob 9 {bad}")

    def test_codes_that_do_not_rise_or_have_like_figures(self):
        self.plan_refused("code 0420", "code 0000")
        self.plan_refused("code 0000", "code 0420")
        self.plan_refused("code 0000", "code 0421")
        self.plan_refused("code 9999", "code 0419")

    def test_any_texts_by_rule(self):
        chance = random.Random(65)
        for _ in range(6000):
            text = altered(chance, plan_text(some_plan(chance)))
            thing = self.told(text, is_plan_text(text), read_plan)
            self.assertTrue(thing is None or is_plan(thing) and plan_text(thing) == text, text)
        self.assertGreater(min(self.right, self.wrong), 300)


class TestNoHouses(TextCase):
    def test_rooms(self):
        for bad in ("rooms 0", "rooms 8", "rooms 3 1", "rooms -4", "rooms +4", "rooms 04", "rooms", "rooms ", "rooms x",
                    "room 4", "Rooms 4", "4", "rooms 2", "rooms 10", "rooms 1000", "rooms 4 -", "rooms " + "7" * 6000):
            self.house_refused("rooms 4", bad)

    def test_rows_in_another_order_twice_or_left_out(self):
        self.refused("0 1 hall\nrooms 4\n", read_house)
        self.refused("0 1 hall\nrooms 4\n0 2 -\n", read_house)
        self.refused("rooms 4\nrooms 4\n", read_house)
        self.refused("rooms 4\n0 1 hall\nrooms 4\n", read_house)
        self.refused("rooms 4\n0 1 hall\nrooms 5\n", read_house)
        self.refused("0 1 hall\n", read_house)

    def test_openings(self):
        for bad in ("0 1", "0", "0 1 hall x", "0 1 hall -", "1 0 hall", "1 1 hall", "0 0 hall", "0 5 hall", "-1 1 hall",
                    "00 1 hall", "0 01 hall", "+0 1 hall", "0 +1 hall", "0 1 Hall", "0 1 halls", "0 1 h4ll", "0 1 --",
                    "0 1 None", "0 1 none1", "x 1 hall", "0 x hall", "hall 0 1", "0 hall 1", "- 1 hall", "0 - hall",
                    "0 1  ", "0 1 ", "opening 0 1 hall", "0 " + "1" * 6000 + " hall"):
            self.house_refused("0 1 hall", bad)

    def test_too_many_openings(self):
        self.assertEqual(len(read_house("rooms 1\n" + "0 1 -\n" * 10)[1]), 10)
        self.refused("rooms 1\n" + "0 1 -\n" * 11, read_house)
        self.refused("rooms 1\n" + "0 1 -\n" * 1000, read_house)

    def test_any_texts_by_rule(self):
        chance = random.Random(66)
        for house in some_houses(67, 6000):
            text = altered(chance, house_text(house))
            thing = self.told(text, is_house_text(text), read_house)
            self.assertTrue(thing is None or is_house(thing) and house_text(thing) == text, text)
        self.assertGreater(min(self.right, self.wrong), 300)


class TestNoRows(TextCase):
    def test_lines(self):
        for bad in ("line d", "line", "line open", "line d open x", "line open d", "line x open", "line halls open",
                    "line - open", "line d Open", "line d opened", "line d -", "Line d open", "lines d open", "d open",
                    "line  open", "line d 1", "line None open"):
            self.row_refused("line d open", bad)

    def test_codes_with_a_zone(self):
        for bad in ("code 0420 shunt", "code 0420 shunt -", "code 0420 shunt x", "code 0420 shunt hall hall",
                    "code 0420 shunt None", "code 420 shunt hall", "code 00420 shunt hall", "code 0x20 shunt hall",
                    "code shunt 0420 hall", "code 0420 hall shunt", "code 0420 Shunt hall", "code 0420 lock hall",
                    "code 0420 hall", "code 0420 shunt Hall", "code 0420 free", "code -420 shunt hall",
                    "code 0420 set hall", "code 0420 unset hall", "code 0420 shunt "):
            self.row_refused("code 0420 shunt hall", bad)

    def test_codes_without_a_zone(self):
        for bad in ("code 0000", "code", "code set", "code set 0000", "code 0000 set set", "code 0000 set -",
                    "code 0000 set None", "code 0000 set hall", "code 0000 Set", "code 0000 sets", "code 0000 shunt",
                    "code 0000 free", "code 000 set", "code 00000 set", "code 0 set", "codes 0000 set",
                    "code 0000 set ", "code 0000 hall"):
            self.row_refused("code 0000 set", bad)

    def test_ticks(self):
        for bad in ("ticks", "ticks 0", "ticks 00", "ticks 01000000000", "ticks -1", "ticks +1", "ticks 1 1", "ticks x",
                    "ticks 1.0", "ticks 1e9", "ticks 1_0", "ticks 0x10", "ticks None", "tick 1", "Ticks 5", "5",
                    "ticks ", "ticks 5 ", "ticks 5 hall", "ticks 0" + "9" * 6000, "ticks -" + "9" * 6000):
            self.row_refused("ticks 1000000000", bad)

    def test_zones_that_the_plan_has_not(self):
        for text in ("line hall open\n", "code 0000 shunt hall\n", "code 0000 free hall\n"):
            self.assertEqual(row_text(read_row(PLAN, text)), text)
            self.refused(text, lambda given: read_row(WATCHED, given))
            self.refused("ticks 1\n" + text, lambda given: read_row(WATCHED, given))

    def test_rows_of_plans_and_houses(self):
        for row in PLAN_TEXT.splitlines(True) + HOUSE_TEXT.splitlines(True):
            self.refused(row, self.read_row)
            self.refused("ticks 1\n" + row, self.read_row)

    def test_any_order_is_a_row(self):
        rows = ROW_TEXT.splitlines(True)
        text = "".join(reversed(rows)) + rows[0] * 3
        self.assertEqual(read_row(PLAN, text), ROW[::-1] + ROW[:1] * 3)

    def test_any_texts_by_rule(self):
        chance = random.Random(68)
        for _ in range(6000):
            plan = some_plan(chance)
            text = altered(chance, row_text(some_row(chance, plan, chance.randint(0, 8))))
            row = self.told(text, is_row_text(plan, text), lambda given: read_row(plan, given))
            self.assertTrue(all(is_event(plan, event) for event in row or ()), text)
            self.assertTrue(row is None or row_text(row) == text, text)
        self.assertGreater(min(self.right, self.wrong), 300)


if __name__ == "__main__":
    unittest.main()
