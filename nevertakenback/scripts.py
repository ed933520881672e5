"""Scripts: lines that lead a hall, and the answers to them."""

from nevertakenback.courts import Court
from nevertakenback.errors import BadCourt, BadScript, TakenError
from nevertakenback.halls import Hall
from nevertakenback.headroom import headroom
from nevertakenback.rings import holds
from nevertakenback.words import read_fraction, read_integer, write_fraction

DEEDS = ("wait", "strike", "hand", "lose")
LOOKS = ("bag", "check", "clock", "lags", "headroom")
MOST_LINES = 100


def is_line(value):
    """Whether any value is a line of one of the forms."""
    return isinstance(value, str) and "\n" not in value and read_line(value) is not None


def read_line(line):
    """The deed or the look that a line tells, as a tuple of its word and its parts; None if it has no such form."""
    words = line.split(" ")
    if "" in words:
        return None
    if words[0] == "strike":
        return read_strike_line(words)
    if len(words) == 1:
        return (words[0],) if words[0] in LOOKS else None
    if len(words) == 2:
        part = read_part(words[0], words[1])
        return None if part is None else (words[0], part)
    return None


def read_strike_line(words):
    """The deed that the words of a strike's line tell, None if they have no such form."""
    if len(words) < 5 or len(words) % 2 == 0:
        return None
    places, ticks = words[3::2], [read_integer(word) for word in words[4::2]]
    if None in ticks:
        return None
    return ("strike", words[1], words[2], tuple(zip(places, ticks)))


def read_part(head, word):
    """What the second one of a line's two words tells, None if it does not belong to the first one."""
    if head == "wait":
        return read_fraction(word)
    if head in ("hand", "lose"):
        return read_integer(word)
    return word if head == "see" else None


def answer(hall, line):
    """The answer to a line of one of the forms, when it is done with the hall."""
    try:
        return told(hall, read_line(line))
    except TakenError as error:
        return refusal(error)


def refusal(error):
    """The answer to what is refused."""
    return "? " + error.__class__.__name__


def told(hall, asked):
    """The answer of the hall to what a line tells, if it is not refused."""
    if asked[0] in DEEDS:
        letter = hall.do(asked)
        return "ok" if letter is None else f"{letter[3][0]} {letter[2]}"
    if asked[0] == "see":
        return " ; ".join([write_spot(ball, spot) for ball, spot in hall.seen(asked[1])])
    if asked[0] == "bag":
        return " ".join([str(row[0]) for row in hall.bag]) if hall.bag else "none"
    if asked[0] == "check":
        return " ".join(hall.check())
    if asked[0] == "clock":
        return write_fraction(hall.clock)
    if asked[0] == "lags":
        return " ".join([write_fraction(lag) for lag in hall.lags])
    room = headroom(hall.court)
    return "any" if room == ("any",) else write_fraction(room[1])


def write_spot(ball, spot):
    """The words that tell where a ball is."""
    if spot[0] == "at":
        return f"{ball} at {spot[1]}"
    _, one, other, part = spot
    return f"{ball} on {one} {other} {write_fraction(part)}"


def read_script(text, most):
    """(None, the court, the lines behind the line hall), or (the number of the line that is wrong, None, ()).

    Behind the line hall may stand most lines, or any number of them, if most is None.
    """
    if not isinstance(text, str):
        return (0, None, ())
    rows = text.split("\n")
    ahead = rows.index("hall") if "hall" in rows else len(rows)
    try:
        court = Court("\n".join(rows[:ahead]))
    except BadCourt as error:
        return (error.value, None, ())
    if ahead == len(rows) or holds(court)[0] == "ring":
        return (ahead + 1, None, ())
    lines = tuple(rows[ahead + 1:])
    for at, line in enumerate(lines):
        if at == most or not is_line(line):
            return (ahead + at + 2, None, ())
    return (None, court, lines)


def played(text):
    """The answers of a new hall to the lines of a script."""
    number, court, lines = read_script(text, MOST_LINES)
    if number is not None:
        raise BadScript(number)
    hall = Hall(court)
    return tuple([answer(hall, line) for line in lines])
