"""What section 16 promises for all scripts and desks, tried with many."""

from fractions import Fraction

from nevertakenback.courts import Court
from nevertakenback.desk import Desk
from nevertakenback.errors import BadJournal, BadLine, BadScript, NothingToRedo, NothingToUndo
from nevertakenback.journals import journal, read_journal
from nevertakenback.scripts import played
from tests.lag_models import needy_rings
from tests.samples import Case, any_course, any_soft_court, seed
from tests.script_models import bad_script, has_form, slow_answers, write

LOOKS = ["bag", "check", "clock", "lags", "headroom"]


def any_line(chance, desk):
    """Some line: often one that is not refused now, sometimes one of no form."""
    court, clock = desk.court, Fraction(*desk.hall.clock)
    player, room = chance.choice(court.players)
    kind = chance.random()
    if kind < 0.3:
        return f"wait {write(clock + Fraction(chance.choice((0, 1, 1, 2, 3, 5, -1)), chance.choice((1, 1, 1, 2, 3))))}"
    if kind < 0.65:
        ready = [
            (name, ball, spot[1]) for name, own in court.players for ball, spot in desk.hall.seen(name)
            if spot[0] == "at" and spot[1] in own
        ]
        ready = ready or [(player, court.balls[0][0], room[0])]
        name, ball, place = chance.choice(ready)
        course = any_course(chance, court, place)
        return " ".join(["strike", name, ball] + [f"{end} {ticks}" for end, ticks in course])
    if kind < 0.78:
        return f"{chance.choice(('hand', 'hand', 'lose'))} {chance.randint(0, 9)}"
    return f"see {player}" if kind < 0.9 else chance.choice(LOOKS)


def spoiled(chance, line):
    """The line with one sign, or one word, otherwise."""
    words = line.split(" ")
    at = chance.randrange(len(words))
    change = chance.choice(("drop", "double", "blank", "word", "number", "end"))
    if change == "drop":
        return " ".join(words[:at] + words[at + 1:])
    if change == "double":
        return " ".join(words[:at + 1] + words[at:])
    if change == "blank":
        return " ".join(words[:at] + [""] + words[at:])
    if change == "end":
        return line + chance.choice((" ", "\n", "0", "/2", "/4", " 1"))
    new = chance.choice(("x", "hall", "-1", "1/2")) if change == "word" else chance.choice(("01", "+1", "2/4", "-0", "1/1", "7", "-3"))
    return " ".join(words[:at] + [new] + words[at + 1:])


class Desks(Case):
    def desks(self, number, count):
        chance = seed(number)
        while count:
            court = any_soft_court(chance, chance.choice((3, 5)), 5)
            if not needy_rings(court):
                count -= 1
                yield chance, Desk(court)

    def test_answers_are_those_of_a_slow_hall(self):
        refused = []
        for chance, desk in self.desks(120, 60):
            for _ in range(chance.choice((6, 14, 20))):
                desk.say(any_line(chance, desk))
                self.same(desk.hall.check(), ("right",))
                self.same(desk.tried(("check",)), ("right",))
            self.same(desk.answers, slow_answers(desk.court, desk.lines))
            refused += [answer.startswith("?") for answer in desk.answers]
            self.same(played(journal(desk)), desk.answers)
            other = read_journal(journal(desk))
            self.assertTrue(other == desk)
            self.same([other.answers, other.hall.bag, other.hall.clock], [desk.answers, desk.hall.bag, desk.hall.clock])
        self.assertGreater(min(refused.count(True), refused.count(False)), 80)

    def test_whatever_is_said_taken_back_said_again_tried_and_copied(self):
        counts = []
        for chance, desk in self.desks(121, 50):
            lines, undone, others = [], [], []
            for _ in range(30):
                kind = chance.choice(("say", "say", "undo", "redo", "tried", "copy", "wrong"))
                counts.append(kind)
                if kind == "say":
                    line = any_line(chance, desk)
                    self.same(desk.say(line), desk.answers[-1])
                    lines, undone = lines + [line], []
                elif kind == "undo" and not lines:
                    self.refuses(NothingToUndo, None, desk.undo)
                elif kind == "undo":
                    self.assertIs(desk.undo(), None)
                    undone.append(lines.pop())
                elif kind == "redo" and not undone:
                    self.refuses(NothingToRedo, None, desk.redo)
                elif kind == "redo":
                    self.assertIs(desk.redo(), None)
                    lines.append(undone.pop())
                elif kind == "tried":
                    more = tuple(any_line(chance, desk) for _ in range(chance.randint(0, 3)))
                    self.same(desk.tried(more), played("\n".join([journal(desk), *more]))[len(lines):])
                elif kind == "copy":
                    others.append((desk, tuple(lines), desk.hall.clock, desk.hall.bag))
                    desk = desk.copy()
                else:
                    line = spoiled(chance, any_line(chance, desk))
                    if not has_form(line):
                        self.refuses(BadLine, line, desk.say, line)
                self.same(desk.lines, tuple(lines))
                self.same(desk.answers, played(journal(desk)))
                self.same(desk.hall.check(), ("right",))
            fresh = read_journal(journal(desk))
            self.same([desk.hall.clock, desk.hall.bag, desk.hall.play.text], [fresh.hall.clock, fresh.hall.bag, fresh.hall.play.text])
            for other, said, clock, bag in others:
                self.same([other.lines, other.hall.clock, other.hall.bag], [said, clock, bag])
        self.assertGreater(min(counts.count(kind) for kind in set(counts)), 100)

    def test_texts_that_are_nearly_scripts(self):
        numbers = []
        for chance, desk in self.desks(122, 60):
            for _ in range(5):
                desk.say(any_line(chance, desk))
            lines = journal(desk).split("\n")
            for _ in range(12):
                at = chance.randrange(len(lines))
                change = chance.choice(("drop", "double", "spoil", "spoil", "hall"))
                if change == "drop":
                    rows = lines[:at] + lines[at + 1:]
                elif change == "double":
                    rows = lines[:at] + [lines[at]] + lines[at:]
                elif change == "spoil":
                    rows = lines[:at] + [spoiled(chance, lines[at])] + lines[at + 1:]
                else:
                    rows = lines[:at] + ["hall"] + lines[at:]
                text = "\n".join(rows)
                number = bad_script(text)
                numbers.append(number)
                if number is None:
                    self.same(played(text), read_journal(text).answers)
                else:
                    self.refuses(BadScript, number, played, text)
                    self.refuses(BadJournal, number, read_journal, text)
        self.assertGreater(min(numbers.count(None), len(numbers) - numbers.count(None)), 50)

    def test_forms_of_lines(self):
        right = []
        for chance, desk in self.desks(123, 40):
            for _ in range(30):
                line = any_line(chance, desk)
                self.assertTrue(has_form(line), line)
                for _ in range(chance.choice((1, 1, 2))):
                    line = spoiled(chance, line)
                right.append(has_form(line))
                copy = desk.copy()
                if right[-1]:
                    copy.say(line)
                    self.same(copy.lines, (line,))
                else:
                    self.refuses(BadLine, line, copy.say, line)
        self.assertGreater(min(right.count(True), right.count(False)), 100)

    def test_courts_made_again_tell_the_same(self):
        for chance, desk in self.desks(124, 30):
            for _ in range(10):
                desk.say(any_line(chance, desk))
            other = Desk(Court(desk.court.text))
            for line in desk.lines:
                other.say(line)
            self.assertTrue(other == desk)
            self.same(other.answers, desk.answers)
