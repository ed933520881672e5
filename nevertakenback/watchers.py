"""Watchers: who has no room, strikes nothing, and sees each place late enough for all news."""

from nevertakenback.checks import check_place
from nevertakenback.courts import give
from nevertakenback.errors import BadDelays
from nevertakenback.exact import greatest, is_at_most, minus, plus, times
from nevertakenback.fields import check_right_lags, way_to_room
from nevertakenback.flaws import steep_ways
from nevertakenback.words import is_integer_from, is_row


def watcher_field(court, lags, delays):
    """The watcher's field that is least at each place."""
    check_watcher(court, lags, delays)
    return tuple([least_seen(court, lags, delays, place) for place in court.places])


def check_watcher(court, lags, delays):
    """Raises BadLags, WrongLags or BadDelays, as all functions here do."""
    check_right_lags(court, lags)
    if not isinstance(delays, tuple) or len(delays) != len(court.players):
        raise BadDelays(delays)
    if not all([is_integer_from(ticks, 0, 99) for ticks in delays]):
        raise BadDelays(delays)


def least_seen(court, lags, delays, place):
    """How late the watcher must see this place, at the least."""
    soft = give(court)
    bounds = [(0, 1)]
    for player, lag, ticks in zip(court.rooms, lags, delays):
        way = times(soft, (way_to_room(court, place, player), 1))
        bounds.append(minus(plus(lag, (ticks, 1)), way))
    return greatest(bounds)


def is_watcher_field(court, lags, delays, field):
    """Whether any value is a watcher's field."""
    check_watcher(court, lags, delays)
    if not is_row(field, len(court.places)):
        return False
    lateness = dict(zip(court.places, field))
    for player, lag, ticks in zip(court.rooms, lags, delays):
        news = plus(lag, (ticks, 1))
        if not all([is_at_most(news, lateness[place]) for place in court.rooms[player]]):
            return False
    return not steep_ways(court, lateness)


def least_lag(court, lags, delays, place):
    """How late, at the least, the watcher sees this place."""
    check_watcher(court, lags, delays)
    check_place(court, place)
    return least_seen(court, lags, delays, place)
