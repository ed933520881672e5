"""Reads the lines of a court's text, one behind another."""

from nevertakenback.errors import BadCourt
from nevertakenback.words import is_integer_from, is_name, is_stretch, read_fraction, read_integer

KINDS = ("court", "stretch", "place", "way", "player", "delay", "ball")
LEAST = (1, 1, 2, 1, 2, 0, 1)
MOST = (1, 1, 12, 40, 6, 30, 6)


class Draft:
    """What the lines of a court's text tell that were read so far."""

    def __init__(self):
        self.kind = 0
        self.counts = [0] * len(KINDS)
        self.stretch = None
        self.places = []
        self.ways = []
        self.lengths = {}
        self.rooms = {}
        self.owners = {}
        self.delays = {}
        self.starts = {}


def read_court(text):
    """The Draft of a whole text; raises BadCourt if it is not that of a court."""
    if not isinstance(text, str):
        raise BadCourt(0)
    draft = Draft()
    lines = text.split("\n")
    for number, line in enumerate(lines, start=1):
        if not take_line(draft, line):
            raise BadCourt(number)
    if not draft.starts or not hangs_together(draft):
        raise BadCourt(len(lines) + 1)
    return draft


def take_line(draft, line):
    """Takes the next line into the draft; tells whether it can stand."""
    words = line.split(" ")
    if words[0] not in KINDS:
        return False
    kind = KINDS.index(words[0])
    if not is_turn(draft, kind):
        return False
    take = TAKERS[words[0]]
    if not take(draft, words):
        return False
    draft.kind = kind
    draft.counts[kind] += 1
    return True


def is_turn(draft, kind):
    """Whether a line of this kind may come next."""
    if kind < draft.kind or draft.counts[kind] == MOST[kind]:
        return False
    return all([draft.counts[earlier] >= LEAST[earlier] for earlier in range(kind)])


def hangs_together(draft):
    """Whether rows of ways lead from the first place to all others."""
    reached = [draft.places[0]]
    for _ in draft.places:
        # Each round adds what is one way farther, and no place is farther than there are places.
        near = [other for one, other in draft.lengths if one in reached and other not in reached]
        reached = reached + sorted(set(near))
    return len(reached) == len(draft.places)


def take_court(draft, words):
    """Whether the words are those of a court line; each function below does so for its kind of line."""
    return len(words) == 1


def take_stretch(draft, words):
    if len(words) != 3:
        return False
    draft.stretch = (read_fraction(words[1]), read_fraction(words[2]))
    return is_stretch(draft.stretch[0], draft.stretch[1])


def take_place(draft, words):
    if len(words) != 2 or not is_name(words[1]) or words[1] in draft.places:
        return False
    draft.places.append(words[1])
    return True


def take_way(draft, words):
    if len(words) != 4:
        return False
    one, other, length = words[1], words[2], read_integer(words[3])
    if one not in draft.places or other not in draft.places or one == other:
        return False
    if (one, other) in draft.lengths or not is_integer_from(length, 1, 99):
        return False
    draft.ways.append((one, other, length))
    draft.lengths[one, other] = length
    draft.lengths[other, one] = length
    return True


def take_player(draft, words):
    if len(words) < 3 or not is_name(words[1]) or words[1] in draft.rooms:
        return False
    room = tuple(words[2:])
    if len(set(room)) < len(room):
        return False
    if any([place not in draft.places or place in draft.owners for place in room]):
        return False
    draft.rooms[words[1]] = room
    for place in room:
        draft.owners[place] = words[1]
    return True


def take_delay(draft, words):
    if len(words) != 4:
        return False
    one, other, ticks = words[1], words[2], read_integer(words[3])
    if one not in draft.rooms or other not in draft.rooms or one == other:
        return False
    if (one, other) in draft.delays or not is_integer_from(ticks, 0, 99):
        return False
    draft.delays[one, other] = ticks
    return True


def take_ball(draft, words):
    if len(words) != 3 or not is_name(words[1]) or words[1] in draft.starts:
        return False
    if words[2] not in draft.owners:
        return False
    draft.starts[words[1]] = words[2]
    return True


TAKERS = {
    "court": take_court,
    "stretch": take_stretch,
    "place": take_place,
    "way": take_way,
    "player": take_player,
    "delay": take_delay,
    "ball": take_ball,
}
