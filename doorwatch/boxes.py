"""A box: a plan with all that happened to it, of which the last can be taken back."""

from doorwatch.errors import NoDeed
from doorwatch.going import gone, words
from doorwatch.plans import DEEDS_OF_ZONES, begun, kind_of
from doorwatch.rows import shown, story


class Box:
    def __init__(self, plan):
        self.plan = plan
        self.events = []
        # The state begun, and the one behind each event: so taking one back works nothing out anew.
        self.states = [begun(plan)]

    def happen(self, event):
        told = words(self.plan, self.state(), event)
        behind = gone(self.plan, self.state(), event)
        self.events.append(event)
        self.states.append(behind)
        return told

    def line(self, zone, what):
        self.need_zone(zone)
        return self.happen(("line", zone, what))

    def code(self, figures, deed, zone):
        if zone is not None or deed in DEEDS_OF_ZONES:
            self.need_zone(zone)
        return self.happen(("code", figures, deed, zone))

    def ticks(self, many):
        return self.happen(("ticks", many))

    def need_zone(self, zone):
        # Asked for the refusal alone: a wrong code would never come to look at its zone.
        kind_of(self.plan, zone)

    def state(self):
        return self.states[-1]

    def shown(self):
        return shown(self.plan, self.state())

    def log(self):
        return story(self.plan, self.states[0], self.row())

    def undo(self):
        if not self.events:
            raise NoDeed("there is no event to take back")
        self.events.pop()
        self.states.pop()

    def row(self):
        return tuple(self.events)
