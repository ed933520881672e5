"""Lags: rows of them above floors, which may be 0, and how late news may be at most."""

from nevertakenback.checks import check_lags, check_player
from nevertakenback.courts import apart, give
from nevertakenback.errors import Ring, Same
from nevertakenback.exact import minus, times
from nevertakenback.rings import needs, no_lags, settle_court
from nevertakenback.settling import greatest_sum


def least_above(court, floors):
    """The least right row of lags in which no lag is less than its floor."""
    check_lags(court, floors)
    kind, told = settle_court(court, floors)
    if kind == "ring":
        raise Ring(told)
    return told


def noughts(court):
    """The players whose lag may be 0 in some right row."""
    least = least_above(court, no_lags(court))
    return tuple([name for name, lag in zip(court.rooms, least) if lag[0] == 0])


def greatest_delay(court, player, other):
    """The greatest integer delay of what other does, until player knows it, with which there are lags."""
    check_player(court, player)
    check_player(court, other)
    if player == other:
        raise Same(player)
    # Raises Ring if there are no lags as it is.
    least_above(court, no_lags(court))
    way = times(give(court), (apart(court, player, other), 1))
    # With the need of this much between both, the ring that needs most needs just 0.
    most = minus(way, greatest_sum(list(court.rooms), needs(court), other, player))
    return most[0] // most[1]
