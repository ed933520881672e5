"""A desk: a hall under hands, whose lines can be taken back and said again."""

from nevertakenback.errors import BadLine, BadLines, NothingToRedo, NothingToUndo
from nevertakenback.halls import Hall
from nevertakenback.scripts import answer, is_line

MOST_TRIED = 20


class Desk:
    """A hall, and the lines by which it was led."""

    def __init__(self, court):
        self.hall = Hall(court)
        self.court = court
        self.lines = ()
        self.answers = ()
        # Beside what the interface lists: the lines that were taken back and may be said again, the next one last.
        self.undone = ()

    def __eq__(self, other):
        return isinstance(other, Desk) and self.court == other.court and self.lines == other.lines

    def say(self, line):
        """The answer to a line, which stands from now on."""
        if not is_line(line):
            raise BadLine(line)
        self.undone = ()
        return self.take(line)

    def take(self, line):
        """The answer to a line; whatever may be said again stays as it is."""
        reply = answer(self.hall, line)
        self.lines = self.lines + (line,)
        self.answers = self.answers + (reply,)
        return reply

    def undo(self):
        """Takes the last line back."""
        if not self.lines:
            raise NothingToUndo(None)
        self.undone = self.undone + self.lines[-1:]
        self.lines = self.lines[:-1]
        self.answers = self.answers[:-1]
        self.hall = self.led_anew()

    def redo(self):
        """Says the line again that was taken back last."""
        if not self.undone:
            raise NothingToRedo(None)
        line = self.undone[-1]
        self.undone = self.undone[:-1]
        self.take(line)

    def led_anew(self):
        """A new hall, led by the lines that stand."""
        hall = Hall(self.court)
        for line in self.lines:
            answer(hall, line)
        return hall

    def tried(self, lines):
        """The answers that these lines would get now."""
        if not are_lines(lines):
            raise BadLines(lines)
        hall = self.led_anew()
        return tuple([answer(hall, line) for line in lines])

    def copy(self):
        """A desk of its own, alike in all things."""
        desk = Desk(self.court)
        desk.hall = self.led_anew()
        desk.lines = self.lines
        desk.answers = self.answers
        desk.undone = self.undone
        return desk


def are_lines(value):
    """Whether any value is a tuple of lines, no more of them than may be tried."""
    return isinstance(value, tuple) and len(value) <= MOST_TRIED and all([is_line(line) for line in value])
