"""Fields: how late a player sees what is at each place."""

from nevertakenback.checks import check_field, check_player, is_known
from nevertakenback.courts import delay, give
from nevertakenback.errors import BadSpot, WrongLags
from nevertakenback.exact import greatest, minus, plus, times
from nevertakenback.flaws import first_flaw
from nevertakenback.rings import is_right
from nevertakenback.words import is_fraction


def least_field(court, lags, player):
    """The player's right field that is least at each place."""
    check_right_lags(court, lags)
    check_player(court, player)
    return tuple([least_at(court, lags, player, place) for place in court.places])


def check_right_lags(court, lags):
    """Raises BadLags, as is_right does, unless this is a row of lags, and WrongLags unless it is right."""
    if not is_right(court, lags):
        raise WrongLags(None)


def least_at(court, lags, player, place):
    """How late the player must see this place, at the least."""
    soft = give(court)
    bounds = [(0, 1)]
    for name, lag in zip(court.rooms, lags):
        # The player knows the own doings at once, so the own room is one of those that bound.
        news = plus(lag, (delay(court, player, name), 1))
        bounds.append(minus(news, times(soft, (way_to_room(court, place, name), 1))))
    return greatest(bounds)


def way_to_room(court, place, player):
    """The least distance from the place to one of the player's room."""
    return min([court.distances[place, end] for end in court.rooms[player]])


def greatest_field(court, lags, player):
    """The player's right field that is greatest at each place."""
    check_right_lags(court, lags)
    check_player(court, player)
    soft = give(court)
    lag = dict(zip(court.rooms, lags))[player]
    return tuple([plus(lag, times(soft, (way_to_room(court, place, player), 1))) for place in court.places])


def is_field(court, lags, player, field):
    """Whether the field is right for this player."""
    check_right_lags(court, lags)
    check_player(court, player)
    check_field(court, field)
    return first_flaw(court, lags, player, field) is None


def all_fields(court, lags):
    """The least fields of all players."""
    return tuple([least_field(court, lags, player) for player in court.rooms])


def field_on(court, field, spot):
    """What the field is at this spot."""
    check_field(court, field)
    if not is_spot(court, spot):
        raise BadSpot(spot)
    lateness = dict(zip(court.places, field))
    if spot[0] == "at":
        return lateness[spot[1]]
    _, one, other, part = spot
    return plus(lateness[one], times(part, minus(lateness[other], lateness[one])))


def is_spot(court, value):
    """Whether any value is a spot of the court."""
    if not isinstance(value, tuple) or len(value) not in (2, 4):
        return False
    if not all([is_known(place, court.places) for place in value[1:3]]):
        return False
    if len(value) == 2:
        return value[0] == "at"
    is_way = value[0] == "on" and (value[1], value[2]) in court.lengths
    return is_way and is_fraction(value[3]) and 0 < value[3][0] < value[3][1]
