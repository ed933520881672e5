"""Checks of single arguments: each one raises the error that is named for its kind of argument."""

from nevertakenback.errors import BadField, BadFields, BadLags, BadTick, BadTime, NoBall, NoPlace, NoPlayer
from nevertakenback.words import is_row, is_tick, is_time


def is_known(value, names):
    """Whether any value is one of the names, which may be told as a tuple or as the keys of a dict."""
    return isinstance(value, str) and value in names


def check_place(court, value):
    """Raises NoPlace unless the value is the name of a place of the court."""
    if not is_known(value, court.places):
        raise NoPlace(value)


def check_player(court, value):
    """Raises NoPlayer unless the value is the name of a player of the court."""
    if not is_known(value, court.rooms):
        raise NoPlayer(value)


def check_ball(court, value):
    """Raises NoBall unless the value is the name of a ball of the court."""
    if not is_known(value, court.starts):
        raise NoBall(value)


def check_tick(value):
    """Raises BadTick unless the value is a tick."""
    if not is_tick(value):
        raise BadTick(value)


def check_time(value):
    """Raises BadTime unless the value is a time."""
    if not is_time(value):
        raise BadTime(value)


def check_lags(court, value):
    """Raises BadLags unless the value is a row of lags."""
    if not is_row(value, len(court.players)):
        raise BadLags(value)


def check_field(court, value):
    """Raises BadField unless the value is a field."""
    if not is_row(value, len(court.places)):
        raise BadField(value)


def check_fields(court, value):
    """Raises BadFields unless the value is a tuple of one field for each player."""
    if not isinstance(value, tuple) or len(value) != len(court.players):
        raise BadFields(value)
    if not all([is_row(field, len(court.places)) for field in value]):
        raise BadFields(value)
