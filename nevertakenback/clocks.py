"""Clocks set otherwise: needs as they are measured by them, and lags found by these."""

from nevertakenback.checks import check_lags
from nevertakenback.errors import BadNeeds, BadOffsets
from nevertakenback.exact import lesser, minus, plus
from nevertakenback.rings import needs, no_lags, shows_settled
from nevertakenback.settling import settle
from nevertakenback.words import is_fraction


def measured(court, offsets):
    """The needs that are measured by clocks that are ahead by these offsets."""
    check_offsets(court, offsets)
    ahead = dict(zip(court.rooms, offsets))
    return tuple([(one, other, plus(need, minus(ahead[one], ahead[other]))) for one, other, need in needs(court)])


def check_offsets(court, value):
    """Raises BadOffsets unless the value is a tuple of one fraction for each player."""
    if not isinstance(value, tuple) or len(value) != len(court.players):
        raise BadOffsets(value)
    if not all([is_fraction(offset) for offset in value]):
        raise BadOffsets(value)


def lags_of(court, table):
    """("lags", the least row that fits measured needs), or ("ring", players whose needs are above 0)."""
    check_needs(court, table)
    return settle(list(court.rooms), table, no_lags(court))


def check_needs(court, value):
    """Raises BadNeeds unless the value is a row of measured needs of all two unlike players."""
    if not isinstance(value, tuple) or len(value) != len(court.delays):
        raise BadNeeds(value)
    if not all([is_need(row, one, other) for row, (one, other, _) in zip(value, court.delays)]):
        raise BadNeeds(value)


def is_need(value, one, other):
    """Whether any value is a measured need of the one player to the other one."""
    if not isinstance(value, tuple) or len(value) != 3:
        return False
    return value[0] == one and value[1] == other and is_fraction(value[2])


def shows_lags_of(court, table, value):
    """Whether any value is right as what lags_of tells."""
    check_needs(court, table)
    return shows_settled(court, table, value)


def led_back(court, lags, offsets):
    """The row that lags found by measured needs are by the true time, raised to 0 if one is below."""
    check_lags(court, lags)
    check_offsets(court, offsets)
    row = [minus(lag, offset) for lag, offset in zip(lags, offsets)]
    least = (0, 1)
    for lag in row:
        least = lesser(least, lag)
    return tuple([minus(lag, least) for lag in row])
