"""Slow and plain ways to tell lags and fields, written apart from the program, to compare both.

Fractions are those of Python's own library here; told and worth lead from one kind to the other.
"""

from fractions import Fraction
from itertools import permutations


def worth(value):
    return Fraction(value[0], value[1])


def told(value):
    return (Fraction(value).numerator, Fraction(value).denominator)


def told_row(row):
    return tuple(told(value) for value in row)


def softness(court):
    p, q = court.stretch
    return min(1 - worth(p), worth(q) - 1)


def far_from(court, places):
    """The least sum of lengths of ways from one of these places, for each place."""
    far = {place: 0 for place in places}
    for _ in court.places:
        for one, other, length in court.ways:
            for start, end in ((one, other), (other, one)):
                if start in far:
                    far[end] = min(far[start] + length, far.get(end, far[start] + length))
    return far


def need_table(court):
    """The need of each player to each other one."""
    rooms = dict(court.players)
    table = {}
    for one, other, ticks in court.delays:
        far = far_from(court, rooms[other])
        table[one, other] = ticks - softness(court) * min(far[place] for place in rooms[one])
    return table


def sum_along(table, row):
    return sum((table[one, other] for one, other in zip(row, row[1:])), Fraction(0))


def all_rings(court):
    """All tuples of two or more unlike players."""
    names = [name for name, _ in court.players]
    return [ring for many in range(2, len(names) + 1) for ring in permutations(names, many)]


def ring_sum(table, ring):
    return sum_along(table, ring + ring[:1])


def needy_rings(court):
    """All rings whose need is above 0."""
    table = need_table(court)
    return [ring for ring in all_rings(court) if ring_sum(table, ring) > 0]


def greatest_row_sum(court, start, end):
    """The greatest sum of needs along a row of unlike players from start to end."""
    table = need_table(court)
    names = [name for name, _ in court.players if name not in (start, end)]
    rows = [row for many in range(len(names) + 1) for row in permutations(names, many)]
    return max(sum_along(table, (start,) + row + (end,)) for row in rows)


def least_row(court, floors):
    """The least right row from these floors on, for a court without needy rings."""
    names = [name for name, _ in court.players]
    row = []
    for name, floor in zip(names, floors):
        sums = [greatest_row_sum(court, name, other) + above for other, above in zip(names, floors) if other != name]
        row.append(max([Fraction(0), floor] + sums))
    return row


def row_is_right(court, row):
    lags = dict(zip([name for name, _ in court.players], row))
    return all(lags[one] >= lags[other] + need for (one, other), need in need_table(court).items())


def spread(court, bounds, sign):
    """What is at each place if it begins with these bounds, and changes by at most c times each way's length.

    With the sign -1 the least that is at least the bounds, with the sign 1 the greatest that is at most them.
    """
    field = dict(bounds)
    for _ in court.places:
        for one, other, length in court.ways:
            for start, end in ((one, other), (other, one)):
                if start in field:
                    edge = field[start] + sign * softness(court) * length
                    field[end] = edge if end not in field else min(field[end], edge) if sign > 0 else max(field[end], edge)
    return [field[place] for place in court.places]


def least_and_greatest_field(court, row, player):
    """The least and the greatest field of a player, for a right row of lags."""
    lags = dict(zip([name for name, _ in court.players], row))
    rooms = dict(court.players)
    bounds = {place: Fraction(0) for place in court.places}
    bounds.update({place: lags[player] for place in rooms[player]})
    for one, other, ticks in court.delays:
        if one == player:
            bounds.update({place: lags[other] + ticks for place in rooms[other]})
    return spread(court, bounds, -1), spread(court, {place: lags[player] for place in rooms[player]}, 1)


def all_faults(court, row, fields):
    """All faults of lags and fields, the first one first."""
    rooms = dict(court.players)
    lags = dict(zip(rooms, row))
    delays = {(one, other): ticks for one, other, ticks in court.delays}
    found = []
    for player, field in zip(rooms, fields):
        late = dict(zip(court.places, field))
        for place in rooms[player]:
            if late[place] != lags[player]:
                found.append(("home", player, place))
        for other in rooms:
            for place in rooms[other]:
                if other != player and late[place] < lags[other] + delays[player, other]:
                    found.append(("news", player, other, place))
        for one, other, length in court.ways:
            if abs(late[one] - late[other]) > softness(court) * length:
                found.append(("steep", player, one, other))
    return found


def field_is_right(court, row, player, field):
    """Whether the field is right for the player, whatever the row is."""
    names = [name for name, _ in court.players]
    fields = [field for _ in names]
    return not [row for row in all_faults(court, row, fields) if row[1] == player]
