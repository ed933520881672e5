"""Slow and plain engines and halls, told straight by sections 12 and 13, to compare the program with.

They keep all letters, and work all out anew each time they are asked. Fractions are those of Python's library here.
"""

from fractions import Fraction

from tests.lag_models import least_and_greatest_field, least_row, told
from tests.models import slow_play
from tests.sight_models import SlowEar, late_at, spot_in, told_spot


def standing(court, strikes):
    """Those of the strikes that can stand behind those ahead of them."""
    stood = []
    for strike in strikes:
        if slow_play(court, stood + [strike]) is not None:
            stood.append(strike)
    return stood


def slow_spot(play, field, ball, time):
    """The spot at which a ball of a SlowPlay is seen: what is seen between two ticks goes evenly from one to the other."""
    start = dict(play.court.balls)[ball]

    def seen_at(tick):
        return tick + late_at(field, spot_in(play.legs[ball], start, tick))

    if time <= seen_at(0):
        return ("at", start)
    tick = 0
    while seen_at(tick + 1) < time:
        tick += 1
    part = (time - seen_at(tick)) / (seen_at(tick + 1) - seen_at(tick))
    return spot_in(play.legs[ball], start, tick + part)


def slow_sight(play, field, time):
    return tuple((ball, told_spot(slow_spot(play, field, ball, time))) for ball, _ in play.court.balls)


class SlowEngine:
    """An engine; row and fields are those of all players, a field a table of fractions by places."""

    def __init__(self, court, row, fields, player):
        self.court = court
        self.player = player
        self.names = [name for name, _ in court.players]
        self.lags = dict(zip(self.names, row))
        self.field = fields[self.names.index(player)]
        self.room = dict(court.players)[player]
        self.ear = SlowEar(court)

    def own(self):
        return tuple(letter for letter in self.ear.letters if letter[1] == self.player)

    def play(self):
        return slow_play(self.court, standing(self.court, self.ear.known()))

    def strike(self, time, ball, course):
        """The letter, or the name of the error."""
        tick = time - self.lags[self.player]
        if tick.denominator != 1 or not 0 <= tick <= 99999:
            return "NotSeen"
        if self.own() and self.own()[-1][3][:2] >= (tick, ball):
            return "NotSeen"
        spot = slow_spot(self.play(), self.field, ball, time)
        if spot[0] != "at" or spot[1] not in self.room:
            return "NotSeen"
        alone = slow_play(self.court, [])
        alone.balls[ball][0] = spot[1]
        if not alone.can_strike(ball, course):
            return "BadCourse"
        letter = ("strike", self.player, len(self.own()), (tick.numerator, ball, course))
        self.ear.hear(letter)
        return letter

    def hear(self, letter):
        """None, or the name of the error; the letter is one by its form."""
        if letter[1] == self.player and letter not in self.own() or self.ear.clashes(letter):
            return "Clash"
        self.ear.hear(letter)
        return None

    def shows(self, time):
        return slow_sight(self.play(), self.field, time)

    def due(self, letter):
        delays = {(one, other): ticks for one, other, ticks in self.court.delays}
        return letter[3][0] + self.lags[letter[1]] + delays.get((self.player, letter[1]), 0)

    def story(self, time):
        known = self.ear.known()
        return tuple(sorted(row[3] for row in self.ear.letters if row[3] in known and self.due(row) <= time))


class SlowHall:
    """A hall of slow engines, for a court that has lags."""

    def __init__(self, court):
        self.court = court
        self.names = [name for name, _ in court.players]
        self.row = least_row(court, [Fraction(0)] * len(self.names))
        self.fields = []
        for name in self.names:
            self.fields.append(dict(zip(court.places, least_and_greatest_field(court, self.row, name)[0])))
        self.engines = {name: SlowEngine(court, self.row, self.fields, name) for name in self.names}
        self.clock = Fraction(0)
        self.strikes = []
        # For each letter: [number, player, letter, whether it is in the bag, whether it was heard].
        self.letters = []

    def wait(self, time):
        if time < self.clock or time > 99999:
            return "BadTime"
        self.clock = time
        self.hear_due()
        return None

    def hear_due(self):
        for row in self.letters:
            if not row[4] and self.engines[row[1]].due(row[2]) <= self.clock:
                row[4] = True
                self.engines[row[1]].hear(row[2])

    def strike(self, player, ball, course):
        if player not in self.names:
            return "NoPlayer"
        if len(self.strikes) >= 40:
            return "Full"
        if ball not in dict(self.court.balls):
            return "NoBall"
        letter = self.engines[player].strike(self.clock, ball, course)
        if isinstance(letter, str):
            return letter
        self.strikes = sorted(self.strikes + [letter[3]])
        for name in self.names:
            if name != player:
                self.letters.append([len(self.letters) + 1, name, letter, True, False])
        self.hear_due()
        return letter

    def found(self, number):
        return [row for row in self.letters if row[3] and row[0] == number]

    def hand(self, number):
        if not self.found(number):
            return "NoLetter"
        row = self.found(number)[0]
        row[4] = True
        self.engines[row[1]].hear(row[2])
        return None

    def lose(self, number):
        if not self.found(number):
            return "NoLetter"
        self.found(number)[0][3] = False
        return None

    def do(self, deed):
        """What the deed tells: None, a letter, or the name of the error; its parts are of the right kinds."""
        return {"wait": self.wait, "strike": self.strike, "hand": self.hand, "lose": self.lose}[deed[0]](*deed[1:])

    def bag(self):
        return tuple(tuple(row[:3]) for row in self.letters if row[3])

    def seen(self, player):
        return self.engines[player].shows(self.clock)

    def right(self, player):
        """What is seen in this player's field of the play of all strikes."""
        return slow_sight(slow_play(self.court, self.strikes), self.fields[self.names.index(player)], self.clock)


def told_fields(court, fields):
    """Fields as the program takes them, of tables of fractions by places."""
    return tuple(tuple(told(field[place]) for place in court.places) for field in fields)
