"""Plans, houses and rows written as texts."""


def number_text(number):
    # By 64 figures at a time, as Python refuses to write some thousand at once, and ticks may be so many.
    ahead = number
    behind = ""
    while ahead >= 10 ** 64:
        behind = str(ahead % 10 ** 64).zfill(64) + behind
        ahead = ahead // 10 ** 64
    return str(ahead) + behind


def text_of(rows):
    return "".join([" ".join(parts) + "\n" for parts in rows])


def zone_parts(zone):
    return ("zone", zone[0], zone[1])


def code_parts(code):
    return ("code", code[0], code[1], number_text(code[3])) + code[2]


def plan_text(plan):
    times = ["times"] + [number_text(time) for time in plan[2]]
    zones = [zone_parts(zone) for zone in plan[0]]
    codes = [code_parts(code) for code in plan[1]]
    return text_of([times] + zones + codes)


def opening_parts(opening):
    zone = "-" if opening[2] is None else opening[2]
    return (number_text(opening[0]), number_text(opening[1]), zone)


def house_text(house):
    rooms = ("rooms", number_text(house[0]))
    return text_of([rooms] + [opening_parts(opening) for opening in house[1]])


def event_parts(event):
    if event[0] == "ticks":
        return ("ticks", number_text(event[1]))
    if event[0] == "code" and event[3] is None:
        return event[:3]
    return event


def row_text(row):
    return text_of([event_parts(event) for event in row])
