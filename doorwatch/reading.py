"""Plans, houses and rows read from their texts.

A text is read loosely, whatever it holds; what comes of it is told only if it is right and its own text is this one.
So the rules of the texts stand in doorwatch.writing alone.
"""

from doorwatch.errors import NoText
from doorwatch.forms import is_text
from doorwatch.houses import is_house
from doorwatch.plans import is_event, is_plan
from doorwatch.writing import house_text, plan_text, row_text


def rows_of(text):
    # Behind the last row end there is no row.
    return [row.split(" ") for row in text.split("\n")[:-1]]


def number_of(part):
    if not is_text(part, 1, len(part), "0", "9"):
        return None
    number = 0
    # Figure by figure, as Python refuses to read some thousand of them at once, and ticks may be so many.
    for figure in part:
        number = number * 10 + ord(figure) - ord("0")
    return number


def numbers_of(parts):
    return tuple([number_of(part) for part in parts])


def numbers_ahead(rows):
    # Those of the first row; whether it has the right word ahead of them, its own text shows.
    return numbers_of(rows[0][1:]) if rows else ()


def code_from(parts):
    # By slices, so that of too few parts comes what is no code.
    return tuple(parts[1:3]) + (tuple(parts[4:]),) + numbers_of(parts[3:4])


def read_plan(text):
    rows = rows_of(text)
    zones = tuple([tuple(parts[1:]) for parts in rows if parts[0] == "zone"])
    codes = tuple([code_from(parts) for parts in rows if parts[0] == "code"])
    plan = (zones, codes, numbers_ahead(rows))
    if not is_plan(plan) or plan_text(plan) != text:
        raise NoText("this is no text of a plan")
    return plan


def opening_from(parts):
    return numbers_of(parts[:2]) + tuple([None if zone == "-" else zone for zone in parts[2:]])


def read_house(text):
    rows = rows_of(text)
    openings = tuple([opening_from(parts) for parts in rows[1:]])
    house = numbers_ahead(rows) + (openings,)
    if not is_house(house) or house_text(house) != text:
        raise NoText("this is no text of a house")
    return house


def event_from(parts):
    if parts[0] == "ticks":
        return ("ticks",) + numbers_of(parts[1:])
    if parts[0] == "code" and len(parts) == 3:
        return tuple(parts) + (None,)
    return tuple(parts)


def read_row(plan, text):
    row = tuple([event_from(parts) for parts in rows_of(text)])
    if not all([is_event(plan, event) for event in row]) or row_text(row) != text:
        raise NoText("this is no text of a row")
    return row
