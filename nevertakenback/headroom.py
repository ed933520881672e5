"""Headroom: how many times as long all delays may be, and which of them can be no longer alone."""

from nevertakenback.errors import BadFactor, BadFraction
from nevertakenback.exact import minus, over, plus
from nevertakenback.lags import least_above
from nevertakenback.rings import is_ring, needs, needs_by, no_lags, sum_round
from nevertakenback.settling import greatest_sum, settle
from nevertakenback.words import is_fraction


def holds_by(court, factor):
    """What holds would tell if each delay were so many times as long."""
    if not is_fraction(factor):
        raise BadFraction(factor)
    if factor[0] < 0:
        raise BadFactor(factor)
    return settle(list(court.rooms), needs_by(court, factor), no_lags(court))


def headroom(court):
    """("factor", the greatest one by which it holds, a ring that bars more), or ("any",) without delays."""
    late = [(one, other) for one, other, ticks in court.delays if ticks > 0]
    if not late:
        return ("any",)
    ring = late[0]
    while True:
        factor = over(ways_round(court, ring), delays_round(court, ring))
        kind, told = holds_by(court, factor)
        if kind == "lags":
            return ("factor", factor, ring)
        # This ring bears less than the one ahead of it, so some ring is the last one.
        ring = told


def ways_round(court, ring):
    """By how much lateness may change over all ways round the ring."""
    return minus((0, 1), sum_round(needs_by(court, (0, 1)), ring))


def delays_round(court, ring):
    """All delays round the ring, added up."""
    return sum_round([(one, other, (ticks, 1)) for one, other, ticks in court.delays], ring)


def shows_headroom(court, value):
    """Whether any value is right as what headroom tells."""
    told = headroom(court)
    if told == ("any",):
        return value == told
    if not isinstance(value, tuple) or len(value) != 3 or value[0] != "factor":
        return False
    if not is_fraction(value[1]) or value[1] != told[1] or not is_ring(court, value[2]):
        return False
    need = sum_round(needs_by(court, told[1]), value[2])
    return need == (0, 1) and delays_round(court, value[2]) != (0, 1)


def tight(court):
    """All (player, other) whose delay can't be greater, all else as it is."""
    # Raises Ring if there are no lags as it is.
    least_above(court, no_lags(court))
    names, table = list(court.rooms), needs(court)
    return tuple([
        (one, other) for one, other, need in table if plus(need, greatest_sum(names, table, other, one)) == (0, 1)
    ])


def least_slowing(court):
    """The least integer of times as long ways with which there are lags, None if there is none."""
    told = headroom(court)
    if told == ("any",):
        return 1
    top, bottom = told[1]
    # So many times as long ways are what so many times shorter delays are; rounded up.
    return -(-bottom // top) if top > 0 else None
