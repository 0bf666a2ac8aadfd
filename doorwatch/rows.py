"""Rows of events: the state behind them, their story, what is shown, and what is loud first."""

from doorwatch.going import course_of

LOUD_WORDS = ("alarm", "attack")


def after(plan, state, row):
    return course_of(plan, state, row).state()


def story(plan, state, row):
    return tuple(course_of(plan, state, row).told)


def shown(plan, state):
    not_shut = [zone[0] for zone, line in zip(plan[0], state[3]) if line != "shut"]
    return (state[0], state[5] > 0, tuple(not_shut))


def first_loud(plan, state, row):
    for told in story(plan, state, row):
        if told[1] in LOUD_WORDS:
            return told
    return None
