"""Section 16: desks, and what is said, taken back and tried at them."""

from nevertakenback.desk import Desk
from nevertakenback.errors import BadLine, BadLines, NothingToRedo, NothingToUndo, Ring
from nevertakenback.halls import Hall
from nevertakenback.journals import journal
from nevertakenback.rings import holds
from nevertakenback.scripts import played
from tests.samples import Case, changed, court_of, great_court_lines, text_of, wrong_values
from tests.test_halls import COURT, ROW
from tests.test_rings import CALM, STAR

LINES = [
    "strike bob x a 4", "wait 1/2", "strike ann x b 4", "wait 2", "strike ann x b 4", "hand 1", "clock", "bag", "lose 1", "bag",
    "wait 6", "see bob", "strike bob x a 5", "see cid", "check",
]


def desk_of(*lines):
    desk = Desk(court_of(COURT))
    for line in lines:
        desk.say(line)
    return desk


class DeskCase(Case):
    def state(self, desk):
        """All that is told of a desk and its hall."""
        hall = desk.hall
        seen = [hall.seen(name) for name, _ in hall.court.players]
        return [desk.court, desk.lines, desk.answers, hall.clock, hall.play, hall.bag, seen, hall.check(), journal(desk)]

    def alike(self, one, other):
        self.assertEqual(self.state(one), self.state(other))
        self.assertTrue(one == other)

    def refused(self, error, value, desk, call, *args):
        before = self.state(desk)
        self.refuses(error, value, call, *args)
        self.same(self.state(desk), before)


class Saying(DeskCase):
    def test_at_first(self):
        for lines in (COURT, ROW, CALM):
            desk = Desk(court_of(lines))
            self.assertEqual(desk.court, court_of(lines))
            self.same([desk.lines, desk.answers], [(), ()])
            self.assertIsInstance(desk.hall, Hall)
            self.assertEqual(desk.hall.court, court_of(lines))
            self.same([desk.hall.clock, desk.hall.play.text, desk.hall.bag], [(0, 1), "play", ()])

    def test_a_ring_that_bars_all_lags(self):
        for lines in (STAR, great_court_lines(), changed(COURT, "stretch 1/2 3/2", "stretch 1 1")):
            court = court_of(lines)
            self.refuses(Ring, holds(court)[1], Desk, court)

    def test_each_line_stands_whatever_the_answer_was(self):
        desk = desk_of()
        told = []
        for at, line in enumerate(LINES, start=1):
            told.append(desk.say(line))
            self.same([desk.lines, desk.answers], [tuple(LINES[:at]), tuple(told)])
        self.same(tuple(told), played(text_of(COURT + ["hall"] + LINES)))
        self.same(told[:5], ["? NotSeen", "ok", "? NotSeen", "ok", "2 0"])
        self.same(told[-2:], ["? NoPlayer", "right"])

    def test_the_hall_is_led_by_the_lines(self):
        desk = desk_of(*LINES)
        self.same([desk.hall.clock, desk.hall.play.strikes[0], len(desk.hall.play.strikes)], [(6, 1), (2, "x", (("b", 4),)), 2])
        self.same([row[0] for row in desk.hall.bag], [2])

    def test_what_is_no_line(self):
        desk = desk_of(*LINES)
        for value in wrong_values() + ["say bag", "bag ", "wait", "wait 2/4", "hall", "bag\n", ["bag"], ("bag",), b"bag"]:
            self.refused(BadLine, value, desk, desk.say, value)

    def test_more_than_100_lines(self):
        desk = desk_of(*["bag", "wait 3"] * 75)
        self.same([len(desk.lines), desk.answers[-2:]], [150, ("none", "ok")])

    def test_desks_share_nothing(self):
        court = court_of(COURT)
        one, other = Desk(court), Desk(court)
        one.say("wait 3")
        self.same([other.lines, other.answers, other.hall.clock], [(), (), (0, 1)])
        self.refuses(NothingToUndo, None, other.undo)


class TakingBack(DeskCase):
    def test_to_either_end(self):
        desk = desk_of(*LINES)
        for many in range(len(LINES) - 1, -1, -1):
            self.assertIs(desk.undo(), None)
            self.alike(desk, desk_of(*LINES[:many]))
        self.refused(NothingToUndo, None, desk, desk.undo)
        for many in range(1, len(LINES) + 1):
            self.assertIs(desk.redo(), None)
            self.alike(desk, desk_of(*LINES[:many]))
        self.refused(NothingToRedo, None, desk, desk.redo)

    def test_what_was_taken_back_is_not_done(self):
        desk = desk_of("strike ann x b 4", "wait 5", "see bob")
        desk.undo()
        desk.undo()
        self.same([desk.hall.clock, len(desk.hall.play.strikes), desk.say("see bob")], [(0, 1), 1, "x at a ; y at a ; z at b"])
        desk.undo()
        desk.undo()
        self.same([desk.hall.play.text, desk.hall.bag, desk.say("strike ann x b 7")], ["play", (), "0 0"])

    def test_nothing_to_take_back_or_to_say_again(self):
        desk = desk_of()
        self.refused(NothingToUndo, None, desk, desk.undo)
        self.refused(NothingToRedo, None, desk, desk.redo)
        desk.say("wait 3")
        self.refused(NothingToRedo, None, desk, desk.redo)

    def test_say_behind_undo(self):
        desk = desk_of("wait 3", "wait 4", "wait 5")
        desk.undo()
        desk.undo()
        desk.say("clock")
        self.refused(NothingToRedo, None, desk, desk.redo)
        self.same([desk.lines, desk.answers], [("wait 3", "clock"), ("ok", "3")])
        desk.undo()
        desk.redo()
        self.same(desk.lines, ("wait 3", "clock"))
        self.refused(NothingToRedo, None, desk, desk.redo)

    def test_say_of_the_very_line_that_was_taken_back(self):
        desk = desk_of("wait 3", "wait 4")
        desk.undo()
        desk.undo()
        desk.say("wait 3")
        self.refused(NothingToRedo, None, desk, desk.redo)

    def test_what_is_refused_leaves_what_may_be_said_again(self):
        desk = desk_of("wait 3", "wait 4")
        desk.undo()
        self.refused(BadLine, "x", desk, desk.say, "x")
        self.refused(BadLines, ("x",), desk, desk.tried, ("x",))
        desk.tried(("wait 7",))
        desk.redo()
        self.same(desk.lines, ("wait 3", "wait 4"))

    def test_a_line_that_was_answered_by_an_error_is_said_behind_undo_all_the_same(self):
        desk = desk_of("wait 3", "wait 4")
        desk.undo()
        self.same(desk.say("wait 1"), "? BadTime")
        self.refused(NothingToRedo, None, desk, desk.redo)

    def test_back_and_forth(self):
        desk = desk_of(*LINES)
        for back, forth in ((3, 2), (5, 5), (1, 1), (4, 3), (2, 4)):
            for _ in range(back):
                desk.undo()
            for _ in range(forth):
                desk.redo()
        self.alike(desk, desk_of(*LINES))


class Trying(DeskCase):
    def test_the_answers_that_they_would_get(self):
        desk = desk_of(*LINES[:5])
        before = self.state(desk)
        self.same(desk.tried(("wait 7", "see bob", "lose 9", "lose 1", "bag")), ("ok", "x at b ; y at a ; z at b", "? NoLetter", "ok", "none"))
        self.same(self.state(desk), before)
        self.same(desk.tried(("clock", "bag")), ("2", "1"))

    def test_at_each_state(self):
        for many in range(len(LINES)):
            desk = desk_of(*LINES[:many])
            rest = tuple(LINES[many:])
            told = desk.tried(rest)
            self.same(told, desk_of(*LINES).answers[many:])
            for line in rest:
                desk.say(line)
            self.same(desk.answers[many:], told)

    def test_0_and_20_and_21_lines(self):
        desk = desk_of("wait 3")
        self.same(desk.tried(()), ())
        self.same(desk.tried(("clock",) * 20), ("3",) * 20)
        self.refused(BadLines, ("clock",) * 21, desk, desk.tried, ("clock",) * 21)

    def test_what_are_no_lines(self):
        desk = desk_of("wait 3")
        wrong = [value for value in wrong_values() if value != ()]
        wrong += [["clock"], "clock", ("clock", "x"), ("x",), ("clock", None), ("clock", ["clock"]), ("clock ",), ("clock\n",), (("clock",),)]
        wrong += [("clock", value) for value in wrong_values()] + [("clock",) * 21 + ("x",), {"clock": 1}, ("wait 2/4",), (b"clock",)]
        for value in wrong:
            self.refused(BadLines, value, desk, desk.tried, value)

    def test_behind_undo(self):
        desk = desk_of("wait 3", "wait 4")
        desk.undo()
        self.same(desk.tried(("clock", "wait 9", "clock")), ("3", "ok", "9"))
        desk.redo()
        self.same(desk.hall.clock, (4, 1))


class Copies(DeskCase):
    def test_alike_in_all_things(self):
        desk = desk_of(*LINES)
        desk.undo()
        desk.undo()
        other = desk.copy()
        self.assertIsInstance(other, Desk)
        self.alike(desk, other)
        other.redo()
        other.redo()
        self.alike(other, desk_of(*LINES))
        self.refuses(NothingToRedo, None, other.redo)
        self.same(len(desk.lines), len(LINES) - 2)

    def test_they_go_on_apart(self):
        desk = desk_of(*LINES[:5])
        desk.undo()
        other = desk.copy()
        self.same([other.say("strike ann y b 4"), desk.say("strike ann x b 9")], ["2 0", "2 0"])
        self.same([desk.say("see ann"), other.say("see ann")], ["x at a ; y at a ; z at b"] * 2)
        self.same([desk.hall.play.strikes[0][1], other.hall.play.strikes[0][1]], ["x", "y"])
        self.assertFalse(desk == other)
        desk.undo()
        desk.undo()
        self.same([len(desk.lines), len(other.lines)], [4, 6])
        desk.redo()
        other.undo()
        self.same([desk.lines[4:], other.lines[4:]], [("strike ann x b 9",), ("strike ann y b 4",)])

    def test_of_a_copy_of_what_was_taken_back(self):
        desk = desk_of("wait 3", "wait 4", "wait 5")
        for _ in range(3):
            desk.undo()
        other = desk.copy().copy()
        desk.redo()
        for _ in range(3):
            other.redo()
        self.same([desk.lines, other.lines], [("wait 3",), ("wait 3", "wait 4", "wait 5")])

    def test_of_a_new_desk(self):
        desk = Desk(court_of(CALM))
        self.alike(desk, desk.copy())
        self.refuses(NothingToUndo, None, desk.copy().undo)
        self.refuses(NothingToRedo, None, desk.copy().redo)


class Equality(DeskCase):
    def test_exactly_if_the_journals_are(self):
        desks = [
            desk_of(), desk_of("bag"), desk_of("bag", "bag"), desk_of("check"), Desk(court_of(CALM)), Desk(court_of(COURT[:-1])),
            desk_of("wait 3"), desk_of("wait 3", "wait 3"), desk_of("wait 3", "wait 1"),
        ]
        for one in desks:
            for other in desks:
                self.assertIs(one == other, one is other)
                self.assertIs(one != other, one is not other)
                self.assertIs(journal(one) == journal(other), one is other)

    def test_whatever_was_taken_back(self):
        one, other = desk_of("bag"), desk_of("bag", "check")
        other.undo()
        self.assertTrue(one == other)
        self.assertFalse(one != other)

    def test_nothing_else_is_equal(self):
        desk = desk_of("bag")
        for value in wrong_values() + [desk.court, desk.hall, journal(desk), desk.lines, (desk.court, desk.lines)]:
            self.assertIs(desk == value, False)
            self.assertIs(desk != value, True)
