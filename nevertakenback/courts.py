"""Courts: places with ways between them, players with their rooms and delays, and balls."""

from nevertakenback.checks import check_place, check_player
from nevertakenback.court_lines import read_court
from nevertakenback.errors import BadLength, BadStretch, BadTicks, NoWay, Same
from nevertakenback.exact import lesser, minus
from nevertakenback.words import is_integer_from, is_stretch, write_fraction


class Court:
    """A court, as its text tells it."""

    def __init__(self, text):
        draft = read_court(text)
        self.text = text
        self.stretch = draft.stretch
        self.places = tuple(draft.places)
        self.ways = tuple(draft.ways)
        self.players = tuple(draft.rooms.items())
        self.delays = all_delays(self.players, draft.delays)
        self.balls = tuple(draft.starts.items())
        # Beside what the interface lists: the same as tables, for look-ups.
        self.rooms = draft.rooms
        self.owners = draft.owners
        self.starts = draft.starts
        self.told_delays = draft.delays
        self.lengths = draft.lengths
        self.distances = all_distances(self.places, self.lengths)

    def __eq__(self, other):
        return isinstance(other, Court) and self.text == other.text


def all_delays(players, told):
    """The delays of all two unlike players; those of whom no line told have 0."""
    names = [name for name, _ in players]
    pairs = [(one, other) for one in names for other in names if one != other]
    return tuple([(one, other, told.get((one, other), 0)) for one, other in pairs])


def all_distances(places, lengths):
    """The table of the distances of all two places, which hang together by ways of these lengths."""
    far = {(place, place): 0 for place in places}
    far.update(lengths)
    for middle in places:
        for one in places:
            for other in places:
                if (one, middle) in far and (middle, other) in far:
                    total = far[one, middle] + far[middle, other]
                    far[one, other] = min(total, far.get((one, other), total))
    return far


def give(court):
    """By how much lateness may change over a way, for each tick of its length."""
    p, q = court.stretch
    return lesser(minus((1, 1), p), minus(q, (1, 1)))


def distance(court, place, other):
    """The least sum of lengths of ways that lead from place to other."""
    check_place(court, place)
    check_place(court, other)
    return court.distances[place, other]


def shortest(court, place, other):
    """The least row of places, from place to other, whose ways have the distance as their sum."""
    left = distance(court, place, other)
    row = [place]
    while left > 0:
        # Each row from here on ends at other, so the least next place gives the least row.
        row.append(min(nexts(court, row[-1], other, left)))
        left = court.distances[row[-1], other]
    return tuple(row)


def nexts(court, place, other, left):
    """The places joined with place by a way that begins a shortest one to other, left ticks away."""
    ends = [end for one, end in court.lengths if one == place]
    return [end for end in ends if court.lengths[place, end] + court.distances[end, other] == left]


def owner(court, place):
    """The player in whose room the place is, or None."""
    check_place(court, place)
    return court.owners.get(place)


def apart(court, player, other):
    """The least distance of a place of the player's room and one of the other's."""
    check_player(court, player)
    check_player(court, other)
    return min([court.distances[one, end] for one in court.rooms[player] for end in court.rooms[other]])


def delay(court, player, other):
    """How much later, at most, the player knows what the other one does."""
    check_player(court, player)
    check_player(court, other)
    return court.told_delays.get((player, other), 0)


def with_delay(court, player, other, ticks):
    """The Court in which the player knows what other does so many ticks later, at most."""
    check_player(court, player)
    check_player(court, other)
    if player == other:
        raise Same(player)
    if not is_integer_from(ticks, 0, 99):
        raise BadTicks(ticks)
    head = f"delay {player} {other} "
    lines = court.text.split("\n")
    at = find_line(lines, head)
    if at is None:
        # The lines of the balls are the last ones, so this is behind all other kinds.
        at = len(lines) - len(court.balls)
        lines.insert(at, head)
    lines[at] = f"{head}{ticks}"
    return Court("\n".join(lines))


def with_length(court, place, other, length):
    """The Court in which the way between place and other is so long."""
    check_place(court, place)
    check_place(court, other)
    if (place, other) not in court.lengths:
        raise NoWay((place, other))
    if not is_integer_from(length, 1, 99):
        raise BadLength(length)
    lines = court.text.split("\n")
    head = f"way {place} {other} "
    at = find_line(lines, head)
    if at is None:
        head = f"way {other} {place} "
        at = find_line(lines, head)
    lines[at] = f"{head}{length}"
    return Court("\n".join(lines))


def find_line(lines, head):
    """The index of the line that begins so, None if there is none."""
    for at, line in enumerate(lines):
        if line.startswith(head):
            return at
    return None


def with_stretch(court, p, q):
    """The Court with this stretch."""
    if not is_stretch(p, q):
        raise BadStretch((p, q))
    lines = court.text.split("\n")
    lines[1] = f"stretch {write_fraction(p)} {write_fraction(q)}"
    return Court("\n".join(lines))
