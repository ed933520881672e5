"""Rows of lags that fit a table of needs, or a ring of players that bars them all.

A table of needs is a tuple of (player, other, need) for all two unlike players: the lag of player must be at least
the lag of other and the need together.
"""

from nevertakenback.exact import greatest, is_less, plus


def settle(names, table, floors):
    """("lags", the least row from the floors on that fits), or ("ring", players whose needs add up to above 0)."""
    lags = dict(zip(names, floors))
    nexts = {}
    for _ in names:
        raised = None
        for one, other, need in table:
            least = plus(lags[other], need)
            if is_less(lags[one], least):
                lags[one] = least
                nexts[one] = other
                raised = one
        if raised is None:
            return ("lags", tuple([lags[name] for name in names]))
    # Each round raises by rows of one more player; a row longer than there are players goes round a ring.
    return ("ring", ring_behind(nexts, raised))


def ring_behind(nexts, name):
    """The ring into which one comes from this name, always going on to the next one."""
    for _ in nexts:
        name = nexts[name]
    ring = [name]
    while nexts[ring[-1]] != name:
        ring.append(nexts[ring[-1]])
    return tuple(ring)


def greatest_sum(names, table, start, end):
    """The greatest sum of needs along a row of players from start to end, if no ring of them is above 0."""
    sums = {end: (0, 1)}
    for _ in names:
        for one, other, need in table:
            if other in sums:
                total = plus(sums[other], need)
                sums[one] = greatest([total, sums.get(one, total)])
    return sums[start]
