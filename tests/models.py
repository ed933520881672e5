"""Slow and plain ways to tell what the program tells, written apart from it, to compare both."""

import re

INTEGER = "(?:0|[1-9][0-9]*)"
NAME = "[a-z]{1,6}"
FORMS = {
    "court": "court",
    "stretch": f"stretch ({INTEGER})(?:/({INTEGER}))? ({INTEGER})(?:/({INTEGER}))?",
    "place": f"place {NAME}",
    "way": f"way {NAME} {NAME} ({INTEGER})",
    "player": f"player {NAME}(?: {NAME}){{1,12}}",
    "delay": f"delay {NAME} {NAME} ({INTEGER})",
    "ball": f"ball {NAME} {NAME}",
}
ORDER = list(FORMS)
COUNTS = {
    "court": (1, 1), "stretch": (1, 1), "place": (2, 12), "way": (1, 40), "player": (2, 6), "delay": (0, 30),
    "ball": (1, 6),
}


def common(one, other):
    while other:
        one, other = other, one % other
    return one


def right_form(line):
    kind = line.split(" ")[0]
    found = re.fullmatch(FORMS[kind], line) if kind in FORMS else None
    if found is None:
        return False
    if kind == "way":
        return 1 <= int(found.group(1)) <= 99
    if kind == "delay":
        return 0 <= int(found.group(1)) <= 99
    if kind == "stretch":
        numbers = [None if word is None else int(word) for word in found.groups()]
        for top, bottom in (numbers[:2], numbers[2:]):
            if bottom is not None and (bottom < 2 or common(top, bottom) != 1):
                return False
        p, q = numbers[0] / (numbers[1] or 1), numbers[2] / (numbers[3] or 1)
        return 0 < p <= 1 <= q <= 99
    return True


def lines_can_stand(lines):
    """Whether these lines can stand as the first ones of a court's text."""
    if not all(right_form(line) for line in lines):
        return False
    rows = [line.split(" ") for line in lines]
    kinds = [row[0] for row in rows]
    if kinds != sorted(kinds, key=ORDER.index) or any(kinds.count(kind) > COUNTS[kind][1] for kind in ORDER):
        return False
    for kind in ORDER[:ORDER.index(kinds[-1])]:
        if kinds.count(kind) < COUNTS[kind][0]:
            return False
    of = {kind: [row[1:] for row in rows if row[0] == kind] for kind in ORDER}
    places, players = [row[0] for row in of["place"]], [row[0] for row in of["player"]]
    roomy = [place for row in of["player"] for place in row[1:]]
    alike = [places, players, roomy, [row[0] for row in of["ball"]], [tuple(row[:2]) for row in of["delay"]]]
    alike.append([tuple(sorted(row[:2])) for row in of["way"]])
    if any(len(set(names)) < len(names) for names in alike):
        return False
    for row in of["way"] + of["delay"]:
        if row[0] == row[1]:
            return False
    told = [place for row in of["way"] for place in row[:2]] + roomy
    return (
        set(told) <= set(places)
        and {name for row in of["delay"] for name in row[:2]} <= set(players)
        and {row[1] for row in of["ball"]} <= set(roomy)
    )


def bad_court(text):
    """The number that BadCourt tells of a text, None if it is that of a court."""
    lines = text.split("\n")
    for number in range(1, len(lines) + 1):
        if not lines_can_stand(lines[:number]):
            return number
    if not any(line.startswith("ball ") for line in lines):
        return len(lines) + 1
    places = [line.split(" ")[1] for line in lines if line.startswith("place ")]
    groups = {place: {place} for place in places}
    for line in lines:
        if line.startswith("way "):
            _, one, other, _ = line.split(" ")
            whole = groups[one] | groups[other]
            for place in whole:
                groups[place] = whole
    return None if len(groups[places[0]]) == len(places) else len(lines) + 1


def rows_between(court, place, other):
    """All (sum, row) of rows of unlike places from place to other, each joined with the next one."""
    lengths = {}
    for one, end, length in court.ways:
        lengths[one, end] = lengths[end, one] = length
    found, open_rows = [], [(0, (place,))]
    while open_rows:
        total, row = open_rows.pop()
        if row[-1] == other:
            found.append((total, row))
            continue
        for (one, end), length in lengths.items():
            if one == row[-1] and end not in row:
                open_rows.append((total + length, row + (end,)))
    return found


class SlowPlay:
    """A play, tick by tick, as section 5 tells it."""

    def __init__(self, court):
        self.court = court
        self.rooms = {place: name for name, room in court.players for place in room}
        self.lengths = {}
        for one, other, length in court.ways:
            self.lengths[one, other] = self.lengths[other, one] = length
        self.tick = 0
        # Of each ball: its place, the place it flies to or None, the ticks flown and needed, what is left.
        self.balls = {ball: [place, None, 0, 0, []] for ball, place in court.balls}
        self.spots = []
        self.there = []
        self.legs = {ball: [] for ball in self.balls}
        self.meetings = []
        self.strikers = []

    def do(self, strikes):
        """One tick: the strikes are those of this tick. Tells whether all of them can stand."""
        came = {}
        for ball in sorted(self.balls):
            state = self.balls[ball]
            if state[1] is not None:
                state[2] += 1
                if state[2] == state[3]:
                    state[0], state[1] = state[1], None
                    came.setdefault(state[0], []).append(ball)
        for place in sorted(came):
            if len(came[place]) > 1:
                self.meetings.append((self.tick, place, tuple(came[place])))
                lefts = [self.balls[ball][4] for ball in came[place]]
                for at, ball in enumerate(came[place]):
                    self.balls[ball][4] = lefts[(at + 1) % len(lefts)]
        for ball, course in strikes:
            if not self.can_strike(ball, course):
                return False
            self.balls[ball][4] = list(course)
            self.strikers.append((self.rooms[self.balls[ball][0]], self.balls[ball][0]))
        self.spots.append({ball: self.spot(state) for ball, state in self.balls.items()})
        self.there.append({place: self.balls_at(place) for place in self.court.places})
        for ball, state in self.balls.items():
            if state[1] is None and state[4]:
                (state[1], state[3]), state[2] = state[4].pop(0), 0
                self.legs[ball].append((state[0], state[1], self.tick, self.tick + state[3]))
        self.tick += 1
        return True

    def balls_at(self, place):
        here = [ball for ball, state in self.balls.items() if state[1] is None and state[0] == place]
        return tuple((ball, tuple(self.balls[ball][4])) for ball in sorted(here))

    def spot(self, state):
        if state[1] is None:
            return ("at", state[0])
        shared = common(state[2], state[3])
        return ("on", state[0], state[1], (state[2] // shared, state[3] // shared))

    def can_strike(self, ball, course):
        if ball not in self.balls:
            return False
        place, goal = self.balls[ball][:2]
        if goal is not None or place not in self.rooms or not 1 <= len(course) <= 24:
            return False
        for end, ticks in course:
            if (place, end) not in self.lengths or not self.lengths[place, end] <= ticks <= 999:
                return False
            place = end
        return place in self.rooms

    def still(self):
        return all(state[1] is None for state in self.balls.values())


def slow_play(court, strikes):
    """The SlowPlay of these strikes, up to the tick in which all balls lie; None if some cannot stand."""
    play = SlowPlay(court)
    last = max([strike[0] for strike in strikes], default=-1)
    while play.tick <= last or not play.still():
        if not play.do([strike[1:] for strike in strikes if strike[0] == play.tick]):
            return None
    return play


def bad_play(court, text):
    """The number that BadPlay tells of a text, None if it is that of a play."""
    lines = text.split("\n")
    if lines[0] != "play":
        return 1
    strikes = []
    for number, line in enumerate(lines[1:], start=2):
        if not re.fullmatch(f"strike {INTEGER} {NAME}(?: {NAME} {INTEGER}){{1,24}}", line) or number > 41:
            return number
        words = line.split(" ")
        course = tuple((words[at], int(words[at + 1])) for at in range(3, len(words), 2))
        strikes.append((int(words[1]), words[2], course))
        if strikes[-1][0] > 99999 or len(strikes) > 1 and strikes[-2][:2] >= strikes[-1][:2]:
            return number
        if slow_play(court, strikes) is None:
            return number
    return None
