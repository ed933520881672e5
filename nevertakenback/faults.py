"""Faults of lags and fields that somebody offers, and plays in which they are seen."""

from nevertakenback.checks import check_fields, check_lags, is_known
from nevertakenback.cones import kept, seen_alike
from nevertakenback.courts import shortest
from nevertakenback.errors import BadPlay, NoFault
from nevertakenback.exact import is_less, minus, plus, times
from nevertakenback.flaws import first_flaw
from nevertakenback.plays import Play, legs, strikers, write_strike
from nevertakenback.words import is_integer_from


def fault(court, lags, fields):
    """The first fault of the lags and fields, None if they have none."""
    check_lags(court, lags)
    check_fields(court, fields)
    for player, field in zip(court.rooms, fields):
        flaw = first_flaw(court, lags, player, field)
        if flaw is not None:
            return flaw
    return None


def breaking(court, lags, fields):
    """A paper of the first fault: the fault, and a play in which something is seen wrongly behind it."""
    flaw = first_fault(court, lags, fields)
    if flaw[0] == "home":
        return flaw + (text_to(court, flaw[2]), 1)
    if flaw[0] == "news":
        return flaw + (text_to(court, flaw[3]),)
    return flaw + steep_parts(court, field_of(court, fields, flaw[1]), flaw[2], flaw[3])


def first_fault(court, lags, fields):
    """The first fault of the lags and fields; raises NoFault if there is none."""
    flaw = fault(court, lags, fields)
    if flaw is None:
        raise NoFault(None)
    return flaw


def field_of(court, fields, player):
    """The table of the player's field, place by place."""
    field = dict(zip(court.rooms, fields))[player]
    return dict(zip(court.places, field))


def text_to(court, place):
    """The text of a play of two strikes: the first ball is led to the place, and struck as it comes there."""
    ball, start = court.balls[0]
    near = [end for one, end in court.lengths if one == place][0]
    there = course_along(court, shortest(court, start, place))
    back = course_along(court, (place, near, place))
    # A ball that lies at the place already is led to a neighbour first, and back.
    first = there or back
    tick = sum([ticks for _, ticks in first])
    return text_of([(0, ball, first), (tick, ball, back)])


def text_of(strikes):
    """The text of the play of these strikes."""
    return "\n".join(["play"] + [write_strike(strike) for strike in strikes])


def course_along(court, row):
    """The course at full speed along a row of places, each joined with the next one."""
    return tuple([(other, court.lengths[one, other]) for one, other in zip(row, row[1:])])


def steep_parts(court, lateness, one, other):
    """What stands in a paper behind a steep fault: a text, a ball, and the number of its leg over the way."""
    ball, start = court.balls[0]
    first, last = one, other
    # Where the field grows by too much a flight is seen too long, or one back too short, or both.
    if not is_seen_wrongly(court, lateness, (one, other, 0, court.lengths[one, other])):
        first, last = other, one
    row = shortest(court, start, first)
    course = course_along(court, row + shortest(court, last, start))
    return (text_of([(0, ball, course)]), ball, len(row) - 1)


def is_seen_wrongly(court, lateness, leg):
    """Whether this flight is seen to take less than P times as long as it takes, or more than Q times."""
    one, other, leaves, comes = leg
    ticks = (comes - leaves, 1)
    seen = plus(ticks, minus(lateness[other], lateness[one]))
    p, q = court.stretch
    return is_less(seen, times(p, ticks)) or is_less(times(q, ticks), seen)


def shows_breaking(court, lags, fields, value):
    """Whether any value is a paper of the first fault."""
    flaw = first_fault(court, lags, fields)
    if not isinstance(value, tuple) or value[:len(flaw)] != flaw:
        return False
    parts = value[len(flaw):]
    if flaw[0] == "home":
        return shows_home(court, flaw, parts)
    if flaw[0] == "news":
        return shows_news(court, flaw, parts)
    return shows_steep(court, field_of(court, fields, flaw[1]), flaw, parts)


def read_play(court, text):
    """The Play of any value, None if it is not the text of one."""
    try:
        return Play(court, text)
    except BadPlay:
        return None


def shows_home(court, flaw, parts):
    """Whether a strike is told that the player does at the place, of a ball that comes there in its tick."""
    if len(parts) != 2:
        return False
    text, number = parts
    play = read_play(court, text)
    if play is None or not is_integer_from(number, 0, len(play.strikes) - 1):
        return False
    tick, ball, _ = play.strikes[number]
    return strikers(play)[number] == flaw[1:] and any([leg[3] == tick for leg in legs(play, ball)])


def shows_news(court, flaw, parts):
    """Whether a play is told whose last strike the other one does at the place, and which matters there."""
    if len(parts) != 1:
        return False
    play = read_play(court, parts[0])
    if play is None or not play.strikes or strikers(play)[-1] != flaw[2:]:
        return False
    without = kept(play, tuple(range(len(play.strikes) - 1)))
    return not seen_alike(play, without, flaw[3], play.strikes[-1][0])


def shows_steep(court, lateness, flaw, parts):
    """Whether a flight over the way is told, as fast as may be, that is seen too long or too short."""
    if len(parts) != 3:
        return False
    text, ball, number = parts
    play = read_play(court, text)
    if play is None or not is_known(ball, court.starts):
        return False
    flights = legs(play, ball)
    if not is_integer_from(number, 0, len(flights) - 1):
        return False
    leg = flights[number]
    if leg[:2] not in (flaw[2:], (flaw[3], flaw[2])) or leg[3] - leg[2] != court.lengths[leg[:2]]:
        return False
    return is_seen_wrongly(court, lateness, leg)
