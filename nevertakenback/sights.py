"""Sights: what somebody with a field sees of the balls, and when."""

from nevertakenback.checks import check_ball, check_field, check_time
from nevertakenback.errors import Steep
from nevertakenback.exact import is_at_most, is_less, minus, over, plus, times
from nevertakenback.flaws import change


def seen_legs(play, field, ball):
    """All flights of the ball: the two places, and the times at which it is seen to leave and to come."""
    check_field(play.court, field)
    check_ball(play.court, ball)
    lateness = dict(zip(play.court.places, field))
    return tuple([
        (one, other, plus((leaves, 1), lateness[one]), plus((comes, 1), lateness[other]))
        for one, other, leaves, comes in play.run.legs[ball]
    ])


def stretches(play, field, ball):
    """For each flight of the ball how many times as long it is seen to take as it takes."""
    seen = seen_legs(play, field, ball)
    return tuple([
        over(minus(shown[3], shown[2]), (leg[3] - leg[2], 1))
        for shown, leg in zip(seen, play.run.legs[ball])
    ])


def tick_seen(play, field, ball, time):
    """The tick of what is seen of the ball at this time."""
    return look(play, field, ball, time)[0]


def spot(play, field, ball, time):
    """The spot at which the ball is seen at this time."""
    return look(play, field, ball, time)[1]


def look(play, field, ball, time):
    """The tick of what is seen of the ball at this time, and the spot at which it is seen."""
    check_field(play.court, field)
    check_ball(play.court, ball)
    check_time(time)
    check_soft(play.court, field)
    place = play.court.starts[ball]
    for leg, seen in zip(play.run.legs[ball], seen_legs(play, field, ball)):
        one, other, leaves, comes = leg
        if is_at_most(time, seen[2]):
            break
        if is_less(time, seen[3]):
            part = over(minus(time, seen[2]), minus(seen[3], seen[2]))
            return (plus((leaves, 1), times(part, (comes - leaves, 1))), ("on", one, other, part))
        place = other
    late = dict(zip(play.court.places, field))[place]
    return (minus(time, late), ("at", place))


def check_soft(court, field):
    """Raises Steep with the first way over which the field changes by its length or more."""
    lateness = dict(zip(court.places, field))
    for one, other, length in court.ways:
        if is_at_most((length, 1), change(lateness, one, other)):
            raise Steep((one, other))


def sight(play, field, time):
    """For each ball the spot at which it is seen at this time."""
    return tuple([(ball, spot(play, field, ball, time)) for ball in play.court.starts])
