"""What happens with an event: the state behind it, and the words that come."""

from doorwatch.plans import kind_of

KINDS_SHUT_TO_SET = ("day", "once")
KINDS_LEFT_BY = ("inner", "way")
WRONG_IN_A_ROW = 3
TICKS_LOCKED = 90


def code_of(plan, figures):
    for code in plan[1]:
        if code[0] == figures:
            return code
    return None


def lessened(ticks, many):
    return max(ticks - many, 0)


class Course:
    # A state on its way through events, with all words that came, each with the ticks that went by until then.

    def __init__(self, plan, state):
        self.plan = plan
        self.mode = state[0]
        self.left = state[1]
        self.came = state[2]
        self.lines = dict(zip([zone[0] for zone in plan[0]], state[3]))
        self.shunts = list(state[4])
        self.siren = state[5]
        self.alarms = list(state[6])
        self.tries = state[7]
        self.locked = state[8]
        self.used = dict(zip([code[0] for code in plan[1]], state[9]))
        self.past = 0
        self.told = []

    def state(self):
        lines = tuple(self.lines.values())
        shunts = tuple(self.shunts)
        alarms = tuple(self.alarms)
        used = tuple(self.used.values())
        return (self.mode, self.left, self.came, lines, shunts, self.siren, alarms, self.tries, self.locked, used)

    def happen(self, event):
        if event[0] == "line":
            self.line(event[1], event[2])
        elif event[0] == "code":
            self.code(event[1], event[2], event[3])
        else:
            self.ticks(event[1])

    def tell(self, word, name):
        self.told.append((self.past, word, name))

    def be_loud(self):
        self.siren = self.plan[2][2]

    def alarm(self, zone):
        self.be_loud()
        if zone not in self.alarms:
            self.alarms.append(zone)
            self.tell("alarm", zone)

    def bare_zones(self, kinds):
        zones = [zone[0] for zone in self.plan[0] if zone[1] in kinds]
        return [zone for zone in zones if self.lines[zone] != "shut" and zone not in self.shunts]

    def line(self, zone, what):
        before = self.lines[zone]
        if what == before:
            return
        self.lines[zone] = what
        if what == "shut":
            if before == "cut":
                self.tell("mended", zone)
        elif zone not in self.shunts:
            self.disturb(zone, what)

    def disturb(self, zone, what):
        kind = kind_of(self.plan, zone)
        if kind == "day":
            self.alarm(zone)
        elif self.mode == "off":
            if what == "cut":
                self.tell("fault", zone)
        elif what == "cut" or kind == "once":
            self.alarm(zone)
        elif self.mode == "on":
            self.come_in(zone, kind)

    def come_in(self, zone, kind):
        if kind != "way" or self.plan[2][1] <= 0:
            self.alarm(zone)
            return
        self.mode = "coming"
        self.left = self.plan[2][1]
        self.came = zone
        self.tell("coming", zone)

    def ticks(self, many):
        # Ticks go by all at once, up to the one that ends the time to leave or to come and behind it:
        # no other tick does more than count down.
        if many < 1:
            return
        if self.mode in ("leaving", "coming") and self.left <= many:
            rest = many - self.left
            self.count_down(self.left)
            self.end_time()
            self.count_down(rest)
        else:
            self.count_down(many)

    def count_down(self, many):
        self.past += many
        self.locked = lessened(self.locked, many)
        self.siren = lessened(self.siren, many)
        self.left = lessened(self.left, many)

    def end_time(self):
        if self.mode == "leaving":
            self.end_leaving()
        else:
            self.end_coming()

    def end_leaving(self):
        self.mode = "on"
        self.left = 0
        self.tell("on", None)
        for zone in self.bare_zones(KINDS_LEFT_BY):
            self.alarm(zone)

    def end_coming(self):
        zone = self.came
        self.mode = "on"
        self.came = None
        self.alarm(zone)

    def code(self, figures, deed, zone):
        code = code_of(self.plan, figures)
        if self.locked > 0:
            self.tell("locked", None)
        elif code is None or self.is_used_up(code):
            self.take_wrong()
        else:
            self.tries = 0
            self.take_right(code, deed, zone)

    def is_used_up(self, code):
        return code[3] != 0 and self.used[code[0]] >= code[3]

    def take_wrong(self):
        self.tell("wrong", None)
        self.tries += 1
        if self.tries >= WRONG_IN_A_ROW:
            self.tries = 0
            self.locked = TICKS_LOCKED
            self.be_loud()
            self.tell("attack", None)

    def take_right(self, code, deed, zone):
        against = self.what_is_against(code, deed, zone)
        if against is None:
            self.used[code[0]] += 1
            self.do_deed(code[1], deed, zone)
        else:
            self.tell(against[0], against[1])

    def what_is_against(self, code, deed, zone):
        right = "shunt" if deed == "free" else deed
        if right not in code[2]:
            return ("denied", code[1])
        if self.is_untimely(deed, zone):
            return ("no", code[1])
        bare = self.bare_zones(KINDS_SHUT_TO_SET)
        if deed == "set" and bare:
            return ("open", bare[0])
        return None

    def is_untimely(self, deed, zone):
        if deed == "unset":
            return False
        if self.mode != "off":
            return True
        if deed == "shunt":
            return kind_of(self.plan, zone) == "day" or zone in self.shunts
        return deed == "free" and zone not in self.shunts

    def do_deed(self, who, deed, zone):
        if deed == "set":
            self.do_set(who)
        elif deed == "unset":
            self.do_unset(who)
        elif deed == "shunt":
            self.shunts = sorted(self.shunts + [zone])
            self.tell("shunt", zone)
        else:
            self.shunts.remove(zone)
            self.tell("free", zone)

    def do_set(self, who):
        self.alarms = []
        self.siren = 0
        self.mode = "leaving"
        self.left = self.plan[2][0]
        self.tell("set", who)
        if self.left <= 0:
            self.end_leaving()

    def do_unset(self, who):
        self.mode = "off"
        self.left = 0
        self.siren = 0
        self.came = None
        self.shunts = []
        self.tell("unset", who)


def course_of(plan, state, row):
    course = Course(plan, state)
    for event in row:
        course.happen(event)
    return course


def gone(plan, state, event):
    return course_of(plan, state, (event,)).state()


def words(plan, state, event):
    return tuple([(word, name) for past, word, name in course_of(plan, state, (event,)).told])
