"""The forms of which plans, houses and events are made up, asked of any thing."""


def is_whole(thing):
    # To Python, True and False are ints; here they are no whole numbers.
    return isinstance(thing, int) and not isinstance(thing, bool)


def is_within(thing, least, most):
    return is_whole(thing) and least <= thing <= most


def is_tuple(thing, least, most):
    return isinstance(thing, tuple) and least <= len(thing) <= most


def is_text(thing, least, most, first, last):
    if not isinstance(thing, str) or not least <= len(thing) <= most:
        return False
    # Sign by sign, as isalpha and isdigit would take letters and figures of other scripts too.
    return all([first <= sign <= last for sign in thing])


def is_name(thing):
    return is_text(thing, 1, 4, "a", "z")


def is_figures(thing):
    return is_text(thing, 4, 4, "0", "9")


def rises(things):
    # No two alike: wherever something is to rise, its parts are to be unlike as well.
    return all([one < other for one, other in zip(things, things[1:])])
