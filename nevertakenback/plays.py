"""Plays: what was struck when, and where the balls are because of it."""

from nevertakenback.checks import check_ball, check_tick
from nevertakenback.courses import is_course_form
from nevertakenback.errors import BadPlay, BadStrike, CannotStand
from nevertakenback.exact import fraction
from nevertakenback.runs import Run
from nevertakenback.words import is_name, is_tick, read_integer

MOST_STRIKES = 40


class Play:
    """A play of a court, as its text tells it."""

    def __init__(self, court, text):
        # Beside what the interface lists: the run, in which all that the play tells was worked out.
        self.run = Run(court)
        self.court = court
        self.text = text
        self.strikes = read_strikes(self.run, text)
        self.run.finish()

    def __eq__(self, other):
        return isinstance(other, Play) and self.court == other.court and self.text == other.text


def read_strikes(run, text):
    """The strikes that the text of a play tells, all done in the run; BadPlay if it is not that of a play."""
    if not isinstance(text, str):
        raise BadPlay(0)
    lines = text.split("\n")
    if lines[0] != "play":
        raise BadPlay(1)
    strikes = []
    for number, line in enumerate(lines[1:], start=2):
        strike = read_strike(line)
        if strike is None or not is_behind(strikes, strike) or not run.take(strike):
            raise BadPlay(number)
        strikes.append(strike)
    return tuple(strikes)


def is_behind(strikes, strike):
    """Whether one more strike may stand behind these, by their number and by its tick and ball."""
    if len(strikes) == MOST_STRIKES:
        return False
    return not strikes or strikes[-1][:2] < strike[:2]


def read_strike(line):
    """The strike that a line tells, None if it does not have the form of one."""
    words = line.split(" ")
    if words[0] != "strike" or len(words) < 5 or len(words) % 2 == 0:
        return None
    places, ticks = words[3::2], words[4::2]
    course = tuple([(place, read_integer(word)) for place, word in zip(places, ticks)])
    strike = (read_integer(words[1]), words[2], course)
    return strike if is_strike_form(strike) else None


def is_strike_form(value):
    """Whether any value has the form of a strike, whatever its ball and its places."""
    if not isinstance(value, tuple) or len(value) != 3:
        return False
    return is_tick(value[0]) and is_name(value[1]) and is_course_form(value[2])


def write_strike(strike):
    """The line that tells a strike."""
    tick, ball, course = strike
    steps = [f"{place} {ticks}" for place, ticks in course]
    return " ".join(["strike", str(tick), ball] + steps)


def where(play, ball, tick):
    """The spot at which the ball is in this tick."""
    check_ball(play.court, ball)
    check_tick(tick)
    place = play.court.starts[ball]
    for one, other, leaves, comes in play.run.legs[ball]:
        if leaves < tick < comes:
            return ("on", one, other, fraction(tick - leaves, comes - leaves))
        if comes <= tick:
            place = other
    return ("at", place)


def legs(play, ball):
    """All flights of the ball: from which place, to which one, and the ticks of leaving and coming."""
    check_ball(play.court, ball)
    return tuple(play.run.legs[ball])


def strikers(play):
    """For each strike the player who did it, and the place where."""
    return tuple(play.run.strikers)


def meetings(play):
    """All meetings: the tick, the place, and the balls that came there."""
    return tuple(play.run.meetings)


def last_tick(play):
    """The greatest tick in which something happens, 0 without strikes."""
    return max([0] + [leg[3] for ball in play.run.legs for leg in play.run.legs[ball]])


def with_strike(play, strike):
    """The Play with one more strike, at its place among the others."""
    if not is_strike_form(strike):
        raise BadStrike(strike)
    ahead = len([other for other in play.strikes if other[:2] < strike[:2]])
    lines = play.text.split("\n")
    lines.insert(1 + ahead, write_strike(strike))
    try:
        return Play(play.court, "\n".join(lines))
    except BadPlay:
        raise CannotStand(strike) from None
