"""Rings: what players need of one another, and whether a ring of them needs more than it has."""

from nevertakenback.checks import check_lags, is_known
from nevertakenback.courts import apart, give
from nevertakenback.errors import BadRing
from nevertakenback.exact import is_at_most, is_less, minus, plus, times
from nevertakenback.settling import settle
from nevertakenback.words import is_pair, is_row


def needs(court):
    """For all two unlike players by how much the one's lag must be above the other's, at least."""
    return needs_by(court, (1, 1))


def needs_by(court, factor):
    """What needs tells if each delay is so many times as long."""
    soft = give(court)
    return tuple([
        (one, other, minus(times(factor, (ticks, 1)), times(soft, (apart(court, one, other), 1))))
        for one, other, ticks in court.delays
    ])


def ring_need(court, players):
    """The needs of each player of the ring from the next one on, added up."""
    if not is_ring(court, players):
        raise BadRing(players)
    return sum_round(needs(court), players)


def sum_round(table, ring):
    """What a table of needs tells of each player of the ring and the next one, added up."""
    need_of = {(one, other): need for one, other, need in table}
    total = (0, 1)
    for one, other in zip(ring, ring[1:] + ring[:1]):
        total = plus(total, need_of[one, other])
    return total


def is_ring(court, value):
    """Whether any value is a tuple of two or more unlike names of players."""
    if not isinstance(value, tuple) or len(value) < 2:
        return False
    return all([is_known(name, court.rooms) for name in value]) and len(set(value)) == len(value)


def is_right(court, lags):
    """Whether each lag is at least each other one and the need between both."""
    check_lags(court, lags)
    table = dict(zip(court.rooms, lags))
    return all([is_at_most(plus(table[other], need), table[one]) for one, other, need in needs(court)])


def holds(court):
    """("lags", the least right row), or ("ring", a ring whose need is above 0)."""
    return settle_court(court, no_lags(court))


def settle_court(court, floors):
    """What holds tells, of the rows of lags from the floors on."""
    return settle(list(court.rooms), needs(court), floors)


def no_lags(court):
    """The row in which all lags are 0."""
    return ((0, 1),) * len(court.players)


def shows_holds(court, value):
    """Whether any value is right as what holds tells."""
    return shows_settled(court, needs(court), value)


def shows_settled(court, table, value):
    """Whether any value is the least row that fits a table of needs, or a ring whose needs bar all rows."""
    kind, told = settle(list(court.rooms), table, no_lags(court))
    if not is_pair(value) or value[0] != kind:
        return False
    if kind == "lags":
        return is_row(value[1], len(court.players)) and value[1] == told
    return is_ring(court, value[1]) and is_less((0, 1), sum_round(table, value[1]))
