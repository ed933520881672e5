"""Flaws: where a field is not what it must be for its player and a row of lags."""

from nevertakenback.courts import delay, give
from nevertakenback.exact import is_at_most, is_less, minus, plus, times


def first_flaw(court, lags, player, field):
    """The first flaw of the player's field, as section 9 of the document tells faults; None if it has none."""
    lateness = dict(zip(court.places, field))
    lag_of = dict(zip(court.rooms, lags))
    flaws = (
        home_flaws(court, lag_of, player, lateness)
        + news_flaws(court, lag_of, player, lateness)
        + steep_flaws(court, player, lateness)
    )
    return flaws[0] if flaws else None


def home_flaws(court, lag_of, player, lateness):
    """All places of the player's own room that are not seen just their lag late."""
    return [("home", player, place) for place in court.rooms[player] if lateness[place] != lag_of[player]]


def news_flaws(court, lag_of, player, lateness):
    """All places of other rooms that are seen sooner than the news of what is done there may come."""
    flaws = []
    for other in court.rooms:
        if other != player:
            news = plus(lag_of[other], (delay(court, player, other), 1))
            places = [place for place in court.rooms[other] if is_less(lateness[place], news)]
            flaws.extend([("news", player, other, place) for place in places])
    return flaws


def steep_flaws(court, player, lateness):
    """All ways over which the player's field changes by more than it may."""
    return [("steep", player, one, other) for one, other in steep_ways(court, lateness)]


def steep_ways(court, lateness):
    """The two places of all ways over which the field changes by more than it may."""
    soft = give(court)
    return [
        (one, other)
        for one, other, length in court.ways
        if not is_at_most(change(lateness, one, other), times(soft, (length, 1)))
    ]


def change(lateness, one, other):
    """By how much the field changes from the one place to the other, whether it grows or falls."""
    grown = minus(lateness[other], lateness[one])
    return (abs(grown[0]), grown[1])
