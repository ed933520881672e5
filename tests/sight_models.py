"""Slow and plain ways to tell what is seen, what a paper shows, and what is heard, to compare the program with."""

from fractions import Fraction

from tests.lag_models import all_faults, told, worth
from tests.models import bad_play, slow_play


def late_at(field, spot):
    """How late a spot is seen, in a field that is told as a table of fractions."""
    if spot[0] == "at":
        return field[spot[1]]
    _, one, other, part = spot
    return field[one] * (1 - part) + field[other] * part


def spot_in(legs, start, tick):
    """Where a ball with these legs is in any tick, also between two."""
    place = start
    for one, other, leaves, comes in legs:
        if leaves < tick < comes:
            return ("on", one, other, Fraction(tick - leaves) / (comes - leaves))
        if comes <= tick:
            place = other
    return ("at", place)


def told_spot(spot):
    return spot if spot[0] == "at" else spot[:3] + (told(spot[3]),)


def steep_way(court, field):
    """The first way over which the field changes by its length or more, None if there is none."""
    for one, other, length in court.ways:
        if abs(field[one] - field[other]) >= length:
            return (one, other)
    return None


def strikes_of(court, text):
    """The strikes that any value tells as the text of a play, None if it is none."""
    if not isinstance(text, str) or bad_play(court, text) is not None:
        return None
    rows = [line.split(" ") for line in text.split("\n")[1:]]
    return [(int(row[1]), row[2], tuple(zip(row[3::2], map(int, row[4::2])))) for row in rows]


def is_count(value, many):
    """Whether this is an integer from 0 on that is less than many."""
    return type(value) is int and 0 <= value < many


def is_paper(court, row, fields, value):
    """Whether any value is a paper of the first fault of lags and fields, as section 9 tells it."""
    fault = all_faults(court, row, fields)[0]
    many = len(fault)
    if type(value) is not tuple or len(value) <= many or value[:many] != fault:
        return False
    strikes = strikes_of(court, value[many])
    if strikes is None:
        return False
    play = slow_play(court, strikes)
    if fault[0] == "home":
        if len(value) != 5 or not is_count(value[4], len(strikes)):
            return False
        tick, ball, _ = strikes[value[4]]
        came = [leg for leg in play.legs[ball] if leg[1] == fault[2] and leg[3] == tick]
        return play.strikers[value[4]] == fault[1:] and len(came) == 1
    if fault[0] == "news":
        if len(value) != 5 or not strikes or play.strikers[-1] != fault[2:]:
            return False
        tick, place = strikes[-1][0], fault[3]
        without = slow_play(court, strikes[:-1])
        while len(without.there) <= tick:
            without.do([])
        return play.there[tick][place] != without.there[tick][place]
    if len(value) != 7 or type(value[5]) is not str or value[5] not in play.legs:
        return False
    legs = play.legs[value[5]]
    if not is_count(value[6], len(legs)):
        return False
    one, other, leaves, comes = legs[value[6]]
    lengths = {frozenset(way[:2]): way[2] for way in court.ways}
    if {one, other} != set(fault[2:]) or comes - leaves != lengths[frozenset(fault[2:])]:
        return False
    names = [name for name, _ in court.players]
    field = dict(zip(court.places, fields[names.index(fault[1])]))
    seen = comes + field[other] - leaves - field[one]
    p, q = court.stretch
    return not worth(p) * (comes - leaves) <= seen <= worth(q) * (comes - leaves)


def order(one, other):
    """-1, 0 or 1, as the one stands ahead of the other one or behind it."""
    return (one > other) - (one < other)


class SlowEar:
    """An ear that keeps all letters, and looks through all of them each time."""

    def __init__(self, court):
        self.court = court
        self.letters = []

    def clashes(self, letter):
        _, player, number, strike = letter
        for _, other, count, match in self.letters:
            if other == player and number == count and strike != match:
                return True
            if other == player and order(number, count) != order(strike[:2], match[:2]):
                return True
        return False

    def hear(self, letter):
        if letter not in self.letters:
            self.letters.append(letter)

    def heard(self, player):
        numbers = [letter[2] for letter in self.letters if letter[1] == player]
        return min(count for count in range(len(numbers) + 1) if count not in numbers)

    def known(self):
        strikes = [letter[3] for letter in self.letters if letter[2] < self.heard(letter[1])]
        return tuple(sorted(strikes, key=lambda strike: strike[:2]))
