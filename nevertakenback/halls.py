"""Halls: a court with all its players at work, wires that lose letters, and a clock."""

from nevertakenback.checks import check_player
from nevertakenback.engines import Engine
from nevertakenback.errors import BadDeed, BadTime, Full, NoLetter, Ring
from nevertakenback.exact import is_at_most
from nevertakenback.fields import all_fields
from nevertakenback.letters import due_by
from nevertakenback.plays import MOST_STRIKES, Play, with_strike
from nevertakenback.rings import holds
from nevertakenback.sights import sight
from nevertakenback.words import is_fraction, is_integer

# How many parts a deed has, its first word counted.
PARTS = {"wait": 2, "strike": 4, "hand": 2, "lose": 2}
LAST_TIME = (99999, 1)


class Hall:
    """An engine for each player of a court, and the letters between them."""

    def __init__(self, court):
        kind, told = holds(court)
        if kind == "ring":
            raise Ring(told)
        self.court = court
        self.lags = told
        self.fields = all_fields(court, told)
        self.clock = (0, 1)
        self.play = Play(court, "play")
        self.bag = ()
        # Beside what the interface lists: the engines by their players, and how many letters there were; of each
        # letter that was not heard, also when it is lost, its number, its player, the letter, and when it is due.
        self.engines = {player: Engine(court, told, self.fields, player) for player in court.rooms}
        self.sent = 0
        self.awaited = []

    def do(self, deed):
        """Does a deed; tells the letter of a strike."""
        if not is_deed(deed):
            raise BadDeed(deed)
        if deed[0] == "wait":
            return self.wait(deed[1])
        if deed[0] == "strike":
            return self.strike(deed[1], deed[2], deed[3])
        if deed[0] == "hand":
            return self.hand(deed[1])
        return self.lose(deed[1])

    def wait(self, time):
        """Lets the clock go on to this time."""
        if not is_fraction(time) or not is_at_most(self.clock, time) or not is_at_most(time, LAST_TIME):
            raise BadTime(time)
        self.clock = time
        self.hear_what_is_due()

    def strike(self, player, ball, course):
        """Lets the player strike a ball now, and puts a letter for each other player into the bag."""
        check_player(self.court, player)
        if len(self.play.strikes) == MOST_STRIKES:
            raise Full(MOST_STRIKES)
        letter = self.engines[player].strike(self.clock, ball, course)
        self.play = with_strike(self.play, letter[3])
        for other in self.court.rooms:
            if other != player:
                self.sent += 1
                self.bag = self.bag + ((self.sent, other, letter),)
                self.awaited.append((self.sent, other, letter, due_by(self.court, self.lags, other, letter)))
        self.hear_what_is_due()
        return letter

    def hear_what_is_due(self):
        """Lets each letter be heard that was not, and whose time has come."""
        for _, player, letter, time in self.awaited:
            if is_at_most(time, self.clock):
                self.engines[player].hear(letter)
        self.awaited = [row for row in self.awaited if not is_at_most(row[3], self.clock)]

    def hand(self, number):
        """Lets the letter of this number be heard now."""
        _, player, letter = self.in_bag(number)
        self.engines[player].hear(letter)
        self.awaited = [row for row in self.awaited if row[0] != number]

    def lose(self, number):
        """Takes the letter of this number out of the bag; if it was not heard, it is still heard when it is due."""
        lost = self.in_bag(number)
        self.bag = tuple([row for row in self.bag if row != lost])

    def in_bag(self, number):
        """The (number, player, letter) of the letter of this number in the bag."""
        for row in self.bag:
            if is_integer(number) and row[0] == number:
                return row
        raise NoLetter(number)

    def seen(self, player):
        """What the player sees now."""
        check_player(self.court, player)
        return self.engines[player].shows(self.clock)

    def check(self):
        """Whether each player sees now what is seen of the play of all strikes."""
        for player, field in zip(self.court.rooms, self.fields):
            for shown, right in zip(self.seen(player), sight(self.play, field, self.clock)):
                if shown != right:
                    return ("wrong", player, shown[0])
        return ("right",)


def is_deed(value):
    """Whether any value has the form of a deed, whatever its parts are."""
    if not isinstance(value, tuple) or not value or not isinstance(value[0], str):
        return False
    return value[0] in PARTS and len(value) == PARTS[value[0]]
