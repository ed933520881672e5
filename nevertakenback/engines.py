"""Engines: what a player has, to hear letters, to strike, and to be shown the balls."""

from nevertakenback.checks import check_ball, check_fields, check_player, check_time
from nevertakenback.cones import standing_play
from nevertakenback.courses import is_course
from nevertakenback.errors import BadCourse, Clash, NotSeen, WrongFields
from nevertakenback.exact import is_at_most, minus
from nevertakenback.fields import check_right_lags
from nevertakenback.flaws import first_flaw
from nevertakenback.letters import Ear, check_letter, due_by
from nevertakenback.sights import sight, spot
from nevertakenback.words import is_tick


class Engine:
    """What a player knows of the play, and sees of it."""

    def __init__(self, court, lags, fields, player):
        check_right_lags(court, lags)
        check_fields(court, fields)
        if not all([first_flaw(court, lags, name, field) is None for name, field in zip(court.rooms, fields)]):
            raise WrongFields(None)
        check_player(court, player)
        self.court = court
        self.player = player
        self.letters = ()
        self.play = standing_play(court, ())
        # Beside what the interface lists: how late the player is, and sees each place, and what was heard.
        self.lags = lags
        self.lag = dict(zip(court.rooms, lags))[player]
        self.field = dict(zip(court.rooms, fields))[player]
        self.ear = Ear(court, player)

    def strike(self, time, ball, course):
        """Does the player's next strike, of a ball that is seen in the own room at this time; tells its letter."""
        check_time(time)
        check_ball(self.court, ball)
        tick = minus(time, self.lag)
        seen = spot(self.play, self.field, ball, time)
        if not self.is_next(tick, ball) or seen[0] != "at" or seen[1] not in self.court.rooms[self.player]:
            raise NotSeen(ball)
        if not is_course(self.court, seen[1], course):
            raise BadCourse(course)
        letter = ("strike", self.player, len(self.letters), (tick[0], ball, course))
        self.take_in(letter)
        self.letters = self.letters + (letter,)
        return letter

    def is_next(self, tick, ball):
        """Whether the fraction is a tick, in which this ball may be struck behind the player's last strike."""
        if tick[1] != 1 or not is_tick(tick[0]):
            return False
        return not self.letters or self.letters[-1][3][:2] < (tick[0], ball)

    def hear(self, letter):
        """Hears a letter; of the player's own ones just those that were told by strike."""
        check_letter(self.court, letter)
        if letter[1] == self.player and letter not in self.letters:
            raise Clash(letter)
        self.take_in(letter)

    def take_in(self, letter):
        """Lets the ear hear the letter, and works out the play anew if more is known by it."""
        known = self.ear.known()
        self.ear.hear(letter)
        more = self.ear.known()
        if len(more) > len(known):
            self.play = standing_play(self.court, more)

    def shows(self, time):
        """For each ball the spot at which it is seen at this time."""
        check_time(time)
        return sight(self.play, self.field, time)

    def story(self, time):
        """All strikes that are known and must have been heard by this time, whatever is lost."""
        check_time(time)
        return tuple(sorted([
            letter[3]
            for letter in self.ear.known_letters()
            if is_at_most(due_by(self.court, self.lags, self.player, letter), time)
        ]))
