"""Letters: how strikes are told to all others, by when they come, and what is known by them."""

from nevertakenback.checks import check_lags, check_player, is_known
from nevertakenback.courses import is_course
from nevertakenback.courts import delay
from nevertakenback.errors import BadLetter, Clash
from nevertakenback.exact import plus
from nevertakenback.plays import strikers
from nevertakenback.words import is_integer, is_tick


def letters_of(play):
    """The letters of all strikes of the play, in its sequence."""
    counts = {player: 0 for player in play.court.rooms}
    letters = []
    for strike, (player, _) in zip(play.strikes, strikers(play)):
        letters.append(("strike", player, counts[player], strike))
        counts[player] += 1
    return tuple(letters)


def due_by(court, lags, player, letter):
    """The time by which the player has the letter, whatever is lost."""
    check_lags(court, lags)
    check_player(court, player)
    check_letter(court, letter)
    striker, strike = letter[1], letter[3]
    lag = dict(zip(court.rooms, lags))[striker]
    return plus(lag, (strike[0] + delay(court, player, striker), 1))


def check_letter(court, value):
    """Raises BadLetter unless the value is a letter by its form."""
    if not is_letter(court, value):
        raise BadLetter(value)


def is_letter(court, value):
    """Whether any value is a letter by its form."""
    if not isinstance(value, tuple) or len(value) != 4 or value[0] != "strike":
        return False
    _, player, number, strike = value
    if not is_known(player, court.rooms) or not is_integer(number) or number < 0:
        return False
    if not isinstance(strike, tuple) or len(strike) != 3:
        return False
    tick, ball, course = strike
    if not is_tick(tick) or not is_known(ball, court.starts):
        return False
    return any([is_course(court, place, course) for place in court.rooms[player]])


class Ear:
    """What a player has heard: letters of all players, also of their own."""

    def __init__(self, court, player):
        check_player(court, player)
        self.court = court
        self.player = player
        # For each player the table of the strikes that are held, by their numbers.
        self.held = {name: {} for name in court.rooms}

    def hear(self, letter):
        """Holds the letter, if it can be true beside those that are held."""
        check_letter(self.court, letter)
        _, player, number, strike = letter
        if is_clash(self.held[player], number, strike):
            raise Clash(letter)
        self.held[player][number] = strike

    def heard(self, player):
        """How many strikes of the player are known from the first one on, without a gap."""
        check_player(self.court, player)
        count = 0
        while count in self.held[player]:
            count += 1
        return count

    def known_letters(self):
        """The letters of all strikes that are known without a gap, player by player."""
        letters = []
        for player in self.held:
            for number in range(self.heard(player)):
                letters.append(("strike", player, number, self.held[player][number]))
        return letters

    def known(self):
        """All strikes, of all players, that are known without a gap, ascending."""
        return tuple(sorted([letter[3] for letter in self.known_letters()]))


def is_clash(held, number, strike):
    """Whether a player's strike of this number cannot be beside those of the player that are held."""
    for other, match in held.items():
        if number == other and strike != match:
            return True
        if number < other and strike[:2] >= match[:2]:
            return True
        if number > other and strike[:2] <= match[:2]:
            return True
    return False
