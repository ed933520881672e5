"""Slow and plain ways to read and to answer the lines of scripts, told straight by section 16."""

import re
from fractions import Fraction

from nevertakenback.courts import Court
from tests.hall_models import SlowHall
from tests.lag_models import all_rings, need_table, needy_rings, ring_sum, told
from tests.models import INTEGER, bad_court, common

SIGNED = "(?:0|-?[1-9][0-9]*)"
WORD = "[^ \n]+"
FORMS = [
    f"wait ({SIGNED})(?:/({INTEGER}))?", f"(?:hand|lose) {SIGNED}", f"strike {WORD} {WORD}(?: {WORD} {SIGNED})+", f"see {WORD}",
    "bag|check|clock|lags|headroom",
]


def has_form(line):
    """Whether a string is a line of one of the forms."""
    for form in FORMS:
        found = re.fullmatch(form, line)
        if found is not None:
            top, bottom = found.groups() if form.startswith("wait") else (None, None)
            return bottom is None or int(bottom) > 1 and common(abs(int(top)), int(bottom)) == 1
    return False


def bad_script(text, most=100):
    """The number that BadScript tells of a text, None if it is that of a script."""
    lines = text.split("\n")
    ahead = lines.index("hall") if "hall" in lines else None
    number = bad_court("\n".join(lines[:ahead]))
    if number is not None:
        return number
    if ahead is None:
        return len(lines) + 1
    if needy_rings(court_ahead(lines)):
        return ahead + 1
    for at, line in enumerate(lines[ahead + 1:], start=1):
        if not has_form(line) or most is not None and at > most:
            return ahead + 1 + at
    return None


def court_ahead(lines):
    return Court("\n".join(lines[:lines.index("hall")]))


def write(value):
    """A fraction of Python's own as a word."""
    top, bottom = told(value)
    return str(top) if bottom == 1 else f"{top}/{bottom}"


def slow_headroom(court):
    """The greatest factor by which no ring needs too much; None if it is any."""
    delays = {(one, other): Fraction(ticks) for one, other, ticks in court.delays}
    ways = {pair: delays[pair] - need for pair, need in need_table(court).items()}
    return min((ring_sum(ways, ring) / ring_sum(delays, ring) for ring in all_rings(court) if ring_sum(delays, ring)), default=None)


def slow_answer(hall, line):
    """The answer of a slow hall to a line of one of the forms."""
    words = line.split(" ")
    if words[0] in ("wait", "hand", "lose", "strike"):
        if words[0] == "strike":
            deed = ("strike", words[1], words[2], tuple(zip(words[3::2], map(int, words[4::2]))))
        else:
            deed = (words[0], Fraction(words[1]) if words[0] == "wait" else int(words[1]))
        found = hall.do(deed)
        if isinstance(found, str):
            return f"? {found}"
        return "ok" if found is None else f"{found[3][0]} {found[2]}"
    if words[0] == "see":
        if words[1] not in hall.names:
            return "? NoPlayer"
        rows = [(ball,) + spot[:-1] + (spot[-1] if len(spot) == 2 else write(Fraction(*spot[-1])),) for ball, spot in hall.seen(words[1])]
        return " ; ".join(" ".join(row) for row in rows)
    if words[0] == "bag":
        return " ".join(str(row[0]) for row in hall.bag()) or "none"
    if words[0] == "check":
        return "right"
    if words[0] == "clock":
        return write(hall.clock)
    if words[0] == "lags":
        return " ".join(write(lag) for lag in hall.row)
    factor = slow_headroom(hall.court)
    return "any" if factor is None else write(factor)


def slow_answers(court, lines):
    """The answers of a new slow hall to these lines."""
    hall = SlowHall(court)
    return tuple(slow_answer(hall, line) for line in lines)
