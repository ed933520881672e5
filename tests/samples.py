"""Courts, plays and wrong values that several tests need."""

import itertools
import random
import unittest

from nevertakenback.courts import Court
from nevertakenback.desk import Desk
from nevertakenback.errors import CannotStand
from nevertakenback.halls import Hall
from nevertakenback.letters import Ear
from nevertakenback.plays import Play, last_tick, where, with_strike

LETTERS = "abcdefghijkl"

# The courts and the play of the examples in sections 4 and 5.
TRIANGLE = [
    "court", "stretch 1/2 7/4", "place a", "place b", "place c", "way a b 4", "way b c 2", "way a c 9",
    "player ann a", "player bob c", "delay bob ann 3", "ball x a",
]
LINE = [
    "court", "stretch 1/2 2", "place a", "place b", "place c", "way a b 2", "way b c 3", "player p a", "player q c",
    "delay p q 3", "delay q p 1", "ball x a", "ball y c",
]
PLAY = ["play", "strike 0 x b 3 c 3", "strike 0 y b 3 a 2", "strike 6 y b 4 a 2"]


def text_of(lines):
    return "\n".join(lines)


def court_of(lines):
    return Court(text_of(lines))


def play_of(lines, court_lines):
    return Play(court_of(court_lines), text_of(lines))


def changed(lines, old, *new):
    """The lines, with others in the place of one of them."""
    at = lines.index(old)
    return lines[:at] + list(new) + lines[at + 1:]


def great_court_lines():
    """A court with as many lines of each kind as may be."""
    pairs = [(one, other) for one in LETTERS for other in LETTERS if one < other]
    row = [(one, other) for one, other in pairs if ord(other) - ord(one) == 1]
    ways = row + [pair for pair in pairs if pair not in row][:40 - len(row)]
    players = ["pa", "pb", "pc", "pd", "pe", "pf"]
    return (
        ["court", "stretch 1/99 99"]
        + [f"place {place}" for place in LETTERS]
        + [f"way {one} {other} 99" for one, other in ways]
        + [f"player {player} {place}" for player, place in zip(players, LETTERS)]
        + [f"delay {one} {other} 99" for one in players for other in players if one != other]
        + [f"ball {ball} a" for ball in ("u", "v", "w", "x", "y", "z")]
    )


def deep(times):
    """A tuple that is nested so many times."""
    value = ()
    for _ in range(times):
        value = (value,)
    return value


# One object of each class; no test changes them.
OBJECTS = [
    court_of(LINE), play_of(PLAY, LINE), Ear(court_of(LINE), "p"), Hall(court_of(LINE)), Desk(court_of(LINE)),
    Hall(court_of(LINE)).engines["p"],
]


def wrong_values():
    """Values of all kinds, none of them a name of a sample, a tick, a fraction, a strike or a text."""
    return [
        None, True, False, -1, 100000, 10 ** 11, "", " ", "A", "a ", "a b", "nobody", "sevenxs", "0", "1/2",
        [], ["a"], {}, {"a": 1}, (), ("a",), (None, None), deep(30), ["a", ["b"]],
    ] + OBJECTS


def wrong_rows(row):
    """Values that are no rows of times, made from one, and values of all kinds."""
    parts = [
        (2, 4), (0, 2), (-1, 1), (-1, 2), (1, 0), (0, 0), (1, -2), (True, 1), (1, True), (False, 1), (1,), (1, 2, 3),
        [1, 2], 0, 1, True, None, "1/2", "0", ("1", "2"), (), ((1, 2), 1), {}, row,
    ]
    wrong = [value for value in wrong_values() if not isinstance(value, tuple)]
    wrong += [list(row), row[:-1], row + row[:1], (), (row,), row * 2, deep(30), ("lags", row), (None,) * len(row)]
    for at in range(len(row)):
        wrong += [row[:at] + (part,) + row[at + 1:] for part in parts]
    return wrong


class Case(unittest.TestCase):
    """A test case that can ask for an error with its value."""

    def refuses(self, error, value, call, *args, **more):
        with self.assertRaises(error) as caught:
            call(*args, **more)
        self.assertIs(type(caught.exception), error)
        self.same(caught.exception.value, value)

    def in_sequence(self, call, right, *due):
        """Whichever arguments are wrong at once: of the errors that are due the first one is raised.

        Each of due is (index of the argument, error, wrong value), and the error's value if that is another one.
        """
        call(*right)
        for many in range(1, len(due) + 1):
            for chosen in itertools.combinations(due, many):
                if len({row[0] for row in chosen}) < many:
                    continue
                told = list(right)
                for row in chosen:
                    told[row[0]] = row[2]
                self.refuses(chosen[0][1], chosen[0][-1], call, *told)

    def same(self, one, other):
        """Equal, and of the same kinds throughout, so that True is not 1."""
        self.assertIs(type(one), type(other))
        self.assertEqual(one, other)
        if isinstance(one, (tuple, list)):
            for part, match in zip(one, other):
                self.same(part, match)


def any_name(chance, taken):
    """A name that is not taken."""
    while True:
        name = "".join(chance.choice(LETTERS) for _ in range(chance.choice((1, 1, 2, 6))))
        if name not in taken:
            taken.append(name)
            return name


def any_soft_court(chance, most_places=6, most_length=9):
    """Some court, often one that has right rows of lags: softer, and with lesser delays, than any court."""
    lines = any_court_lines(chance, most_places, most_length)
    lines[1] = chance.choice(("stretch 1/2 2", "stretch 1/3 5/3", "stretch 1/4 99", "stretch 1/5 3/2", "stretch 3/4 2"))
    for at, line in enumerate(lines):
        if line.startswith("delay "):
            lines[at] = " ".join(line.split(" ")[:3] + [str(chance.choice((0, 1, 2, 3, 4, 7)))])
    return court_of(lines)


def any_play(chance, court, most_strikes=12):
    """Some play of the court, often one of strikes that come soon behind one another."""
    play = Play(court, "play")
    for _ in range(chance.randint(0, most_strikes)):
        more = any_strike(chance, play, chance.choice((0, 1, chance.randint(0, last_tick(play) + 2))))
        if more is not None:
            play = more
    return play


def any_strike(chance, play, tick):
    """The play with one more strike in this tick, None if the one that was tried cannot stand."""
    ball = chance.choice(play.court.balls)[0]
    spot = where(play, ball, tick)
    if spot[0] != "at":
        return None
    try:
        return with_strike(play, (tick, ball, any_course(chance, play.court, spot[1])))
    except CannotStand:
        return None


def any_court_lines(chance, most_places=6, most_length=4):
    """The lines of some court, mostly a small one, in which balls often meet."""
    places, players, balls = [], [], []
    for _ in range(chance.randint(2, most_places)):
        any_name(chance, places)
    joined = {}
    for at, place in enumerate(places[1:], start=1):
        joined[chance.choice(places[:at]), place] = chance.randint(1, most_length)
    for _ in range(chance.randint(0, 4)):
        one, other = chance.sample(places, 2)
        if (one, other) not in joined and (other, one) not in joined:
            joined[one, other] = chance.randint(1, most_length)
    free = chance.sample(places, len(places))
    lines = []
    rooms = []
    for _ in range(chance.randint(2, min(6, len(places)))):
        rooms.append([free.pop()])
    for room in rooms:
        while free and chance.random() < 0.3:
            room.append(free.pop())
        lines.append(" ".join(["player", any_name(chance, players)] + room))
    for one in players:
        for other in players:
            if one != other and chance.random() < 0.5:
                lines.append(f"delay {one} {other} {chance.choice((0, 1, 5, 99))}")
    roomy = [place for room in rooms for place in room]
    for _ in range(chance.randint(1, 6)):
        lines.append(f"ball {any_name(chance, balls)} {chance.choice(roomy)}")
    stretch = f"stretch {chance.choice(('1', '1/2', '2/3', '1/99'))} {chance.choice(('1', '3/2', '5', '99'))}"
    ways = [f"way {one} {other} {length}" for (one, other), length in joined.items()]
    return ["court", stretch] + [f"place {place}" for place in places] + ways + lines


def any_course(chance, court, start):
    """Some course from this place."""
    near = {place: [] for place in court.places}
    for one, other, length in court.ways:
        near[one].append((other, length))
        near[other].append((one, length))
    rooms = [place for _, room in court.players for place in room]
    while True:
        place, course = start, []
        for _ in range(chance.randint(1, 6)):
            place, length = chance.choice(near[place])
            course.append((place, length + chance.choice((0, 0, 0, 1, 2))))
        if place in rooms:
            return tuple(course)


def seed(number):
    """A source of chance that is the same in each run of the tests."""
    return random.Random(number)
