"""Journals: the text of a desk, from which an equal one can be made."""

from nevertakenback.desk import Desk
from nevertakenback.errors import BadJournal
from nevertakenback.scripts import read_script


def journal(desk):
    """The text of the court, the line hall, and the lines that stand."""
    return "\n".join([desk.court.text, "hall"] + list(desk.lines))


def read_journal(text):
    """The Desk of which this is the journal."""
    number, court, lines = read_script(text, None)
    if number is not None:
        raise BadJournal(number)
    desk = Desk(court)
    for line in lines:
        desk.say(line)
    return desk
