"""Section 5: texts that are not those of plays."""

from nevertakenback.errors import BadPlay
from nevertakenback.plays import Play
from tests.models import bad_play
from tests.samples import LINE, PLAY, Case, any_court_lines, any_course, court_of, seed, text_of, wrong_values

# A court in which x may be struck for ever, with a place d that is in no room.
WIDE = [
    "court", "stretch 1/2 2", "place a", "place b", "place c", "place d", "way a b 2", "way b c 3", "way a d 4",
    "player p a b", "player q c", "ball x a", "ball y c",
]


class BadPlays(Case):
    def wrong(self, number, lines, court_lines=WIDE):
        self.refuses(BadPlay, number, Play, court_of(court_lines), text_of(lines))

    def test_what_is_no_string(self):
        for value in wrong_values():
            if not isinstance(value, str):
                self.refuses(BadPlay, 0, Play, court_of(LINE), value)

    def test_the_first_line(self):
        for line in ("", " ", "plays", "Play", "play ", " play", "play play", "strike 0 x b 2", "court"):
            self.wrong(1, [line])
            self.wrong(1, [line, "strike 0 x b 2"])

    def test_the_example_in_brackets(self):
        self.wrong(2, ["play", "strike 1 x c 3"], LINE)

    def test_a_line_feed_at_the_end(self):
        self.wrong(2, ["play", ""])
        self.wrong(len(PLAY) + 1, PLAY + [""], LINE)
        self.wrong(2, ["play", ""] + PLAY[1:], LINE)

    def test_lines_of_no_such_form(self):
        for line in (
            "strike", "strike 3", "strike 3 x", "strike 3 x b", "strike 3 x b 2 a", "strike -1 x b 2", "strike 03 x b 2",
            "strike +3 x b 2", "strike 100000 x b 2", "strike 3.0 x b 2", "strike 3/1 x b 2", "strike x 3 b 2",
            "strike 3 x b 02", "strike 3 x b +2", "strike 3 x b 2.0", "strike 3 x b two", "strike 3  x b 2",
            "strike  3 x b 2", "strike 3 x b 2 ", " strike 3 x b 2", "strike 3 x  b 2", "strike 3 x b  2", "Strike 3 x b 2",
            "hit 3 x b 2", "strike 3 X b 2", "strike 3 x B 2", "strike True x b 2", "strike 3 x b 2 a 2 b", "play",
            "strike 3 x b 1_0", "strike 3 x b 2\t", "strike 1_0 x b 2", "strike 3 x b -2", "strike 3 x 2 b",
        ):
            self.wrong(2, ["play", line])
            self.wrong(3, ["play", "strike 0 x b 2 a 2", line])

    def test_courses_that_are_none(self):
        for words in (
            "b 1", "b 1000", "b 0", "c 9", "d 4", "b 2 d 4", "b 2 a 2 d 9", "a 2", "e 2", "b 2 a 1", "b 2 c 2", "b 2 b 2",
            "d 3 a 4", "b 2 a 2 c 9", "d 4 b 9", "d 4 a 1000", "p 2", "b 2" + " a 2 b 2" * 12,
        ):
            self.wrong(2, ["play", f"strike 3 x {words}"])
        for words in ("b 2", "b 999", "d 4 a 4", "b 2 c 3", "b 2 a 2 d 999 a 999", " ".join(["b 2 a 2"] * 12)):
            self.assertEqual(len(Play(court_of(WIDE), f"play\nstrike 3 x {words}").strikes), 1)

    def test_balls_that_are_not_there(self):
        self.wrong(2, ["play", "strike 3 z b 2"])
        self.wrong(2, ["play", "strike 3 p b 2"])
        self.wrong(2, ["play", "strike 3 y a 2"])
        for tick in (4, 5):
            self.wrong(3, ["play", "strike 3 x b 3", f"strike {tick} x a 2"])
        self.assertEqual(len(Play(court_of(WIDE), "play\nstrike 3 x b 3\nstrike 6 x a 2").strikes), 2)

    def test_a_ball_at_a_place_of_no_room(self):
        self.wrong(3, ["play", "strike 0 x d 4 a 4", "strike 4 x a 4"])
        self.assertEqual(len(Play(court_of(WIDE), "play\nstrike 0 x d 4 a 4\nstrike 8 x b 2").strikes), 2)

    def test_strikes_that_do_not_ascend(self):
        self.wrong(3, ["play", "strike 3 x b 2", "strike 3 x a 2"])
        self.wrong(3, ["play", "strike 3 x b 2", "strike 3 x b 2"])
        self.wrong(3, ["play", "strike 3 y b 3", "strike 3 x b 2"])
        self.wrong(3, ["play", "strike 3 y b 3", "strike 2 x b 2"])
        self.wrong(3, ["play", "strike 10 y b 3", "strike 9 x b 2"])
        self.assertEqual(len(Play(court_of(WIDE), "play\nstrike 9 y b 3\nstrike 10 x b 2").strikes), 2)
        self.assertEqual(len(Play(court_of(WIDE), "play\nstrike 9 x b 2\nstrike 9 y b 3").strikes), 2)

    def test_a_forty_first_strike(self):
        lines = ["play"] + [f"strike {4 * at} x b 2 a 2" for at in range(40)]
        self.assertEqual(len(Play(court_of(WIDE), text_of(lines)).strikes), 40)
        self.wrong(42, lines + ["strike 1000 x b 2"])
        self.wrong(42, lines + ["strike 160 x b 2", "strike 162 x a 2"])
        self.wrong(42, lines + ["strike 1000 x c 2"])
        self.wrong(42, lines + [""])

    def test_the_ticks_of_strikes(self):
        for tick in (0, 1, 99998, 99999):
            self.assertEqual(Play(court_of(WIDE), f"play\nstrike {tick} x b 2").strikes, ((tick, "x", (("b", 2),)),))

    def test_each_line_out_twice_or_exchanged(self):
        lines = ["play", "strike 0 x b 3 c 3", "strike 0 y b 3 a 2", "strike 3 y a 5", "strike 6 x b 4", "strike 8 y b 2"]
        self.alike(WIDE, lines)
        for at in range(len(lines)):
            self.alike(WIDE, lines[:at] + lines[at + 1:])
            self.alike(WIDE, lines[:at + 1] + lines[at:])
            self.alike(WIDE, lines[:at] + lines[at + 1:at + 2] + lines[at:at + 1] + lines[at + 2:])

    def test_any_lines_in_any_courts(self):
        chance = seed(5)
        for _ in range(150):
            court_lines = any_court_lines(chance, 4, 2)
            court = court_of(court_lines)
            starts = [place for _, place in court.balls]
            lines = ["play"]
            tick = 0
            for _ in range(chance.randint(1, 6)):
                tick += chance.choice((0, 0, 1, 2, 5))
                course = any_course(chance, court, chance.choice(starts))
                steps = " ".join(f"{place} {ticks}" for place, ticks in course)
                lines.append(f"strike {tick} {chance.choice(court.balls)[0]} {steps}")
                self.alike(court_lines, lines)

    def alike(self, court_lines, lines):
        """The program and the slow play tell the same of these lines."""
        number = bad_play(court_of(court_lines), text_of(lines))
        if number is None:
            self.assertEqual(Play(court_of(court_lines), text_of(lines)).text, text_of(lines))
        else:
            self.wrong(number, lines, court_lines)


class Unchanged(Case):
    def test_a_court_serves_many_plays(self):
        court = court_of(LINE)
        for _ in range(2):
            self.refuses(BadPlay, 3, Play, court, text_of(["play", PLAY[1], PLAY[1]]))
            self.assertEqual(Play(court, text_of(PLAY)), Play(court_of(LINE), text_of(PLAY)))
        self.assertEqual(court.balls, court_of(LINE).balls)
