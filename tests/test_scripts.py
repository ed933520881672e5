"""Section 16: lines, their answers, and scripts."""

from nevertakenback.errors import BadLine, BadScript
from nevertakenback.desk import Desk
from nevertakenback.scripts import played
from tests.samples import TRIANGLE, Case, changed, court_of, great_court_lines, text_of, wrong_values
from tests.test_halls import COURT, ROW
from tests.test_rings import CALM, STAR

RIGHT = [
    "wait 0", "wait 7", "wait 1/2", "wait -7", "wait -1/2", "wait 22/7", "wait 100000", "wait 99999999999999/7", "hand 0", "hand 1",
    "hand -1", "hand 123456789012345678901234567890", "lose 1", "lose 0", "lose -40", "strike ann x b 4", "strike ann x b 4 a 4",
    "strike A ; 0 -1", "strike strike strike strike 0", "strike ann x" + " b 4 a 4" * 20, "strike ann x b 0", "strike ann x b -99999",
    "strike 1 2 3 4", "see ann", "see x", "see see", "see ;", "see 1/2", "see bag", "bag", "check", "clock", "lags", "headroom",
]
WRONG = [
    "", " ", "wait", "wait ", " wait 1", "wait 1 ", "wait  1", "wait 1 1", "wait x", "wait 1/1", "wait 2/4", "wait 0/2", "wait 1/0",
    "wait 1/-2", "wait -1/-2", "wait --1", "wait +1", "wait 01", "wait 1_0", "wait 1.5", "wait 1/", "wait /2", "wait 1/2/3", "wait -0",
    "wait 1 /2", "wait 0x1", "wait 00", "wait 1e3", "wait -", "wait 1/02", "wait 1/+2", "wait -2/4", "wait 4/1", "wait None",
    "Wait 1", "WAIT 1", "waits 1", "hand", "hand ", "hand 1/2", "hand x", "hand 1 2", "hand 01", "hand +1", "hand 1_0", "hand -0",
    "hand  1", "hand 1 ", "hand 1.0", "lose", "lose x", "lose 1/2", "lose 1 1", "lose 007", "lose", "strike", "strike ann",
    "strike ann x", "strike ann x b", "strike ann x b 4 a", "strike ann x 4", "strike ann x b 04", "strike ann x b 4/2",
    "strike ann x b x", "strike ann x b 1/2", "strike ann x b 4 ", "strike ann  x b 4", "strike ann x b  4", " strike ann x b 4",
    "strike ann x b 4  a 4", "strike ann x b +4", "strike ann x b 4 a x", "strike  ann x b 4", "strike ann x b -0", "Strike ann x b 4",
    "see", "see ", "see ann bob", "see  ann", " see ann", "see ann ", "bag ", " bag", "bag 1", "bags", "check 1", "clock 1", "clock ",
    "lags 0", "lags ann", "headroom 1", "headroom ", "hall", "court", "play", "none", "ok", "? NoBall", "Bag", "undo", "redo", "ball x a",
    "wait\t1", "#", "bag;", "; bag",
]


def script(lines, *more):
    return text_of(list(lines) + ["hall"] + list(more))


class Forms(Case):
    def test_lines_of_each_form(self):
        for line in RIGHT:
            self.assertEqual(len(played(script(COURT, line))), 1, line)
            self.assertIsInstance(Desk(court_of(COURT)).say(line), str, line)

    def test_lines_near_each_form(self):
        for line in WRONG:
            self.refuses(BadScript, len(COURT) + 2, played, script(COURT, line))
            self.refuses(BadScript, len(COURT) + 3, played, script(COURT, "bag", line, "bag"))
            self.refuses(BadLine, line, Desk(court_of(COURT)).say, line)

    def test_a_line_feed_is_in_no_line(self):
        desk = Desk(court_of(COURT))
        for line in ("bag\n", "\nbag", "bag\nbag", "\n", "see ann\n", "see \n", "see a\nb", "strike ann x b 4\n", "strike a\nb x b 4"):
            self.refuses(BadLine, line, desk.say, line)

    def test_what_is_no_string(self):
        desk = Desk(court_of(COURT))
        for value in wrong_values():
            self.refuses(BadLine, value, desk.say, value)
            if not isinstance(value, str):
                self.refuses(BadScript, 0, played, value)
        for value in (b"bag", b"", 0, 1):
            self.refuses(BadScript, 0, played, value)


class Answers(Case):
    def test_of_deeds(self):
        told = played(script(COURT, "wait 5", "strike ann x b 4", "hand 1", "hand 1", "lose 1", "wait 5", "wait 11/2"))
        self.same(told, ("ok", "5 0", "ok", "ok", "ok", "ok", "ok"))

    def test_of_strikes_the_tick_and_the_number(self):
        told = played(script(ROW, "wait 2", "strike cid x b 4", "strike ann x b 4", "strike bob y c 4", "wait 6", "strike bob x a 4"))
        self.same(told, ("ok", "? NotSeen", "2 0", "2 0", "ok", "6 1"))
        told = played(script(changed(ROW, "ball y b", "ball y c"), "wait 3", "strike cid y b 4", "wait 99999", "strike bob y a 4"))
        self.same(told, ("ok", "1 0", "ok", "99999 0"))

    def test_of_what_is_refused(self):
        lines = [
            ("wait -1", "? BadTime"), ("wait -1/7", "? BadTime"), ("wait 100000", "? BadTime"), ("wait 3", "ok"), ("wait 5/2", "? BadTime"),
            ("hand 1", "? NoLetter"), ("hand 0", "? NoLetter"), ("hand -1", "? NoLetter"), ("lose 7", "? NoLetter"), ("see cid", "? NoPlayer"),
            ("see x", "? NoPlayer"), ("strike cid x b 4", "? NoPlayer"), ("strike ann v b 4", "? NoBall"), ("strike ann z b 4", "? NotSeen"),
            ("strike ann x b 3", "? BadCourse"), ("strike ann x c 4", "? BadCourse"), ("strike ann x b -4", "? BadCourse"),
            ("strike ann x b 1000", "? BadCourse"), ("strike ann x" + " b 4 a 4" * 12 + " b 4", "? BadCourse"),
            ("strike 1 2 3 4", "? NoPlayer"), ("strike ann 2 3 4", "? NoBall"), ("clock", "3"), ("bag", "none"),
        ]
        told = played(script(COURT, *[line for line, _ in lines]))
        self.same(told, tuple(answer for _, answer in lines))

    def test_of_the_41st_strike(self):
        lines = []
        for at in range(20):
            lines += ["strike ann x b 4", f"wait {8 * at + 4}", "strike bob x a 4", f"wait {8 * at + 8}"]
        told = played(script(COURT, *lines, "strike ann x b 4", "strike cid x b 4", "check"))
        self.same(told[-5:], ("156 19", "ok", "? Full", "? NoPlayer", "right"))
        self.same([told[:4], told.count("ok")], [("0 0", "ok", "4 0", "ok"), 40])

    def test_what_is_refused_does_nothing(self):
        told = played(script(COURT, "strike ann z b 4", "wait -1", "hand 1", "clock", "bag", "see ann", "strike ann x b 4"))
        self.same(told[3:], ("0", "none", "x at a ; y at a ; z at b", "0 0"))

    def test_of_see(self):
        told = played(script(COURT, "strike ann x b 4", "strike ann y b 8", "wait 3", "see ann", "see bob", "wait 9", "see ann", "see bob"))
        self.same([told[3], told[4]], ["x on a b 3/4 ; y on a b 3/8 ; z at b", "x on a b 1/2 ; y on a b 1/6 ; z at b"])
        self.same([told[6], told[7]], ["x at b ; y at b ; z at b"] * 2)

    def test_of_bag(self):
        lines = ["bag", "strike ann x b 4", "bag", "strike bob y c 4", "bag", "lose 3", "hand 1", "bag", "lose 1", "lose 2", "lose 4", "bag"]
        told = played(script(ROW, *lines))
        self.same([told[at] for at in (0, 2, 4, 7, 11)], ["none", "1 2", "1 2 3 4", "1 2 4", "none"])

    def test_of_clock_and_lags(self):
        self.same(played(script(ROW, "clock", "lags", "wait 1/2", "clock", "wait 22/7", "clock")), ("0", "0 0 2", "ok", "1/2", "ok", "22/7"))
        self.same(played(script(CALM, "lags")), ("1 0 2",))
        self.same(played(script(changed(COURT, "stretch 1/2 3/2", "stretch 3/4 2"), "lags")), ("0 1",))
        lines = changed(COURT, "stretch 1/2 3/2", "stretch 3/5 2")
        self.same(played(script(lines, "lags")), ("0 2/5",))

    def test_of_headroom(self):
        bare = [line for line in CALM if not line.startswith("delay")]
        self.same(played(script(CALM, "headroom")), ("1",))
        self.same(played(script(TRIANGLE, "headroom")), ("2",))
        self.same(played(script(bare, "headroom")), ("any",))
        self.same(played(script(changed(TRIANGLE, "delay bob ann 3", "delay bob ann 4"), "headroom")), ("3/2",))

    def test_of_check(self):
        self.same(played(script(COURT, "check", "strike ann x b 4", "check", "wait 3", "check")), ("right", "0 0", "right", "ok", "right"))
        desk = Desk(court_of(COURT))
        # No line leads there, so what the engine knows is put in by hand.
        desk.hall.engines["bob"].hear(("strike", "ann", 0, (0, "y", (("b", 4),))))
        desk.hall.clock = (9, 1)
        self.same(desk.say("check"), "wrong bob y")


class Scripts(Case):
    def test_without_a_line_hall(self):
        self.refuses(BadScript, len(COURT) + 1, played, text_of(COURT))
        self.refuses(BadScript, len(COURT) + 1, played, text_of(COURT + ["bag"]))
        self.refuses(BadScript, len(COURT) + 1, played, text_of(COURT + ["Hall"]))
        self.refuses(BadScript, len(COURT) + 1, played, text_of(COURT + [" hall"]))
        self.refuses(BadScript, len(COURT) + 1, played, text_of(COURT + ["hall "]))
        self.refuses(BadScript, len(COURT) + 1, played, text_of(COURT + [""]))
        self.refuses(BadScript, len(COURT), played, text_of(changed(COURT, "ball z b", "ball z c")))
        # Of STAR, too, in which a ring bars all lags, it is the line that lacks.
        self.refuses(BadScript, len(STAR) + 1, played, text_of(STAR))

    def test_with_nothing_ahead_of_it(self):
        for text in ("", "hall", "hall\nbag", "\nhall", "\n", "bag", "hall\nhall"):
            self.refuses(BadScript, 1, played, text)

    def test_with_two_of_them(self):
        self.refuses(BadScript, len(COURT) + 2, played, script(COURT, "hall"))
        self.refuses(BadScript, len(COURT) + 3, played, script(COURT, "bag", "hall", "x"))
        self.refuses(BadScript, 3, played, text_of(COURT[:2] + ["hall"] + COURT[2:] + ["hall"]))

    def test_with_no_line_behind_it(self):
        self.same(played(script(COURT)), ())
        self.same(played(script(CALM)), ())
        self.refuses(BadScript, len(COURT) + 2, played, script(COURT) + "\n")

    def test_a_line_of_the_court_that_cannot_stand(self):
        for at, line in enumerate(COURT):
            lines = COURT[:at] + ["x"] + COURT[at + 1:]
            self.refuses(BadScript, at + 1, played, script(lines, "bag"))
            self.refuses(BadScript, at + 1, played, script(lines, "x"))
        self.refuses(BadScript, 4, played, script(changed(COURT, "place b", "place a"), "x"))

    def test_a_court_that_lacks_something(self):
        number = len(COURT) - 2
        self.refuses(BadScript, number, played, script(COURT[:-3], "bag"))
        self.refuses(BadScript, 6, played, script(COURT[:5], "bag"))
        lines = changed(COURT, "place b", "place b", "place c")
        self.refuses(BadScript, len(lines) + 1, played, script(lines, "x"))

    def test_a_court_with_a_ring(self):
        for lines in (STAR, great_court_lines(), changed(COURT, "stretch 1/2 3/2", "stretch 1 1")):
            self.refuses(BadScript, len(lines) + 1, played, script(lines))
            self.refuses(BadScript, len(lines) + 1, played, script(lines, "bag", "x"))

    def test_a_line_that_has_none_of_the_forms(self):
        for at in range(5):
            lines = ["bag"] * at + ["see"] + ["x"] * (5 - at)
            self.refuses(BadScript, len(COURT) + 2 + at, played, script(COURT, *lines))

    def test_100_lines_and_101(self):
        self.same(played(script(COURT, *["bag"] * 100)), ("none",) * 100)
        first = len(COURT) + 2
        self.refuses(BadScript, first + 100, played, script(COURT, *["bag"] * 101))
        self.refuses(BadScript, first + 100, played, script(COURT, *["bag"] * 100 + ["x"] * 9))
        self.refuses(BadScript, first + 99, played, script(COURT, *["bag"] * 99 + ["x"] * 9))
        self.refuses(BadScript, first + 100, played, script(COURT, *["bag"] * 200))

    def test_scripts_share_nothing(self):
        text = script(COURT, "strike ann x b 4", "bag", "wait 9", "see bob")
        self.same(played(text), played(text))
        self.same(played(text)[:2], ("0 0", "1"))
