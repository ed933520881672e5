"""Section 5: plays and what is told of them."""

from nevertakenback.errors import BadStrike, BadTick, CannotStand, NoBall
from nevertakenback.plays import Play, last_tick, legs, meetings, strikers, where, with_strike
from tests.samples import LINE, PLAY, Case, changed, court_of, play_of, text_of, wrong_values

# All in one room, so that strikes can be done everywhere; four ways of length 1 lead to m.
STAR = [
    "court", "stretch 1/2 2", "place a", "place b", "place c", "place d", "place m", "way a m 1", "way b m 1",
    "way c m 1", "way d m 1", "player p a b m", "player q c d", "ball x a", "ball y b", "ball z c", "ball v d",
]


class Properties(Case):
    def test_as_the_lines_tell_them(self):
        play = play_of(PLAY, LINE)
        self.assertEqual(play.court, court_of(LINE))
        self.same(play.text, text_of(PLAY))
        told = (
            (0, "x", (("b", 3), ("c", 3))), (0, "y", (("b", 3), ("a", 2))), (6, "y", (("b", 4), ("a", 2))),
        )
        self.same(play.strikes, told)

    def test_without_strikes(self):
        play = play_of(["play"], LINE)
        self.same(play.strikes, ())
        self.same([legs(play, "x"), strikers(play), meetings(play), last_tick(play)], [(), (), (), 0])
        self.same([where(play, "y", tick) for tick in (0, 99999)], [("at", "c"), ("at", "c")])

    def test_equal_are_plays_with_equal_courts_and_texts_alone(self):
        play = play_of(PLAY, LINE)
        self.assertTrue(play == play_of(PLAY, LINE))
        self.assertFalse(play != play_of(PLAY, LINE))
        self.assertFalse(play == play_of(PLAY[:2], LINE))
        self.assertTrue(play != play_of(PLAY, changed(LINE, "delay p q 3", "delay p q 2")))
        for value in wrong_values() + [play.text, play.strikes]:
            if not isinstance(value, Play):
                self.assertFalse(play == value)
                self.assertTrue(play != value)

    def test_forty_strikes_and_a_course_of_twenty_four(self):
        lines = ["play"] + [f"strike {tick} x m 1 a 1" for tick in range(0, 80, 2)]
        play = play_of(lines, STAR)
        self.assertEqual([len(play.strikes), len(legs(play, "x")), last_tick(play)], [40, 80, 80])
        lines = ["play", "strike 0 x" + " m 999 a 999" * 12]
        play = play_of(lines, STAR)
        self.same(play.strikes, ((0, "x", (("m", 999), ("a", 999)) * 12),))
        self.same(legs(play, "x")[23], ("m", "a", 23 * 999, 24 * 999))


class Where(Case):
    def test_along_a_course(self):
        play = play_of(["play", "strike 10 x b 4 c 3"], LINE)
        told = [
            (0, ("at", "a")), (9, ("at", "a")), (10, ("at", "a")), (11, ("on", "a", "b", (1, 4))),
            (12, ("on", "a", "b", (1, 2))), (13, ("on", "a", "b", (3, 4))), (14, ("at", "b")),
            (15, ("on", "b", "c", (1, 3))), (16, ("on", "b", "c", (2, 3))), (17, ("at", "c")), (18, ("at", "c")),
            (99999, ("at", "c")),
        ]
        for tick, spot in told:
            self.same(where(play, "x", tick), spot)
            self.same(where(play, "y", tick), ("at", "c"))

    def test_a_way_of_one_tick_is_never_seen_under_way(self):
        play = play_of(["play", "strike 1 x m 1 b 1"], STAR)
        self.same([where(play, "x", tick) for tick in range(4)], [("at", "a"), ("at", "a"), ("at", "m"), ("at", "b")])

    def test_flights_that_end_behind_the_last_tick(self):
        play = play_of(["play", "strike 99999 x b 2 c 999"], LINE)
        self.same(where(play, "x", 99999), ("at", "a"))
        self.same(legs(play, "x"), (("a", "b", 99999, 100001), ("b", "c", 100001, 101000)))
        self.same(last_tick(play), 101000)
        play = play_of(["play", "strike 99000 x b 2 c 999", "strike 99998 y b 3 c 3"], LINE)
        self.same(where(play, "x", 99999), ("on", "b", "c", (997, 999)))
        self.same(where(play, "y", 99999), ("on", "c", "b", (1, 3)))
        self.same(meetings(play), ())

    def test_a_meeting_behind_the_last_tick(self):
        play = play_of(["play", "strike 99998 x b 3 c 3", "strike 99998 y b 3 a 2"], LINE)
        self.same(meetings(play), ((100001, "b", ("x", "y")),))
        self.same(legs(play, "x")[1], ("b", "a", 100001, 100003))

    def test_wrong_arguments(self):
        play = play_of(PLAY, LINE)
        for value in wrong_values() + ["a", "p"]:
            self.refuses(NoBall, value, where, play, value, 3)
            self.refuses(NoBall, value, where, play, value, value)
            self.refuses(NoBall, value, legs, play, value)
        for value in wrong_values() + ["3"]:
            self.refuses(BadTick, value, where, play, "x", value)


class Meetings(Case):
    def met(self, *strikes):
        return play_of(["play"] + list(strikes), STAR)

    def test_two_go_on_with_the_other_ones_course(self):
        play = self.met("strike 0 x m 2 c 1", "strike 1 y m 1 a 1 m 5 b 1")
        self.same(meetings(play), ((2, "m", ("x", "y")),))
        self.same(legs(play, "x")[1:], (("m", "a", 2, 3), ("a", "m", 3, 8), ("m", "b", 8, 9)))
        self.same(legs(play, "y")[1:], (("m", "c", 2, 3),))

    def test_three_go_round_by_their_names(self):
        play = self.met("strike 0 x m 1 a 1", "strike 0 y m 1 b 2", "strike 0 z m 1 c 3")
        self.same(meetings(play), ((1, "m", ("x", "y", "z")),))
        ends = [legs(play, ball)[1] for ball in ("x", "y", "z")]
        self.same(ends, [("m", "b", 1, 3), ("m", "c", 1, 4), ("m", "a", 1, 2)])

    def test_four_by_their_names_not_by_their_lines(self):
        play = self.met("strike 5 v m 1 d 4", "strike 5 x m 1 a 1", "strike 5 y m 1 b 2", "strike 5 z m 1 c 3")
        self.same(meetings(play), ((6, "m", ("v", "x", "y", "z")),))
        ends = [legs(play, ball)[1] for ball in ("v", "x", "y", "z")]
        self.same(ends, [("m", "a", 6, 7), ("m", "b", 6, 8), ("m", "c", 6, 9), ("m", "d", 6, 10)])

    def test_balls_that_lie_there_take_no_part(self):
        play = self.met("strike 0 x m 1", "strike 9 y m 1 b 1")
        self.same(meetings(play), ())
        self.same(where(play, "x", 20), ("at", "m"))
        self.same(where(play, "y", 20), ("at", "b"))
        play = self.met("strike 0 x m 1", "strike 9 y m 1 b 1", "strike 9 z m 1 c 1")
        self.same(meetings(play), ((10, "m", ("y", "z")),))
        self.same([where(play, ball, 20) for ball in ("x", "y", "z")], [("at", "m"), ("at", "c"), ("at", "b")])

    def test_where_nothing_is_left(self):
        play = self.met("strike 0 x m 1", "strike 0 y m 1")
        self.same(meetings(play), ((1, "m", ("x", "y")),))
        self.same([len(legs(play, "x")), last_tick(play)], [1, 1])
        play = self.met("strike 0 x m 1", "strike 0 y m 1 b 1", "strike 0 z m 1")
        self.same(meetings(play), ((1, "m", ("x", "y", "z")),))
        self.same([where(play, ball, 2) for ball in ("x", "y", "z")], [("at", "b"), ("at", "m"), ("at", "m")])

    def test_balls_that_pass_each_other_on_a_way_do_not_meet(self):
        play = self.met("strike 0 x m 1 b 7", "strike 0 y m 4 a 1")
        self.same(meetings(play), ())
        self.same([where(play, "x", 20), where(play, "y", 20)], [("at", "b"), ("at", "a")])

    def test_places_of_one_tick_by_their_names(self):
        lines = changed(changed(STAR, "place m", "place m", "place e"), "way d m 1", "way d m 1", "way d e 1", "way e c 1")
        strikes = ["strike 0 v e 1 d 1", "strike 0 x m 1", "strike 0 y m 1", "strike 0 z e 1 c 1"]
        play = play_of(["play"] + strikes, lines)
        self.same(meetings(play), ((1, "e", ("v", "z")), (1, "m", ("x", "y"))))
        self.same([where(play, "v", 2), where(play, "z", 2)], [("at", "c"), ("at", "d")])

    def test_a_strike_comes_behind_the_meeting(self):
        play = self.met("strike 0 x m 1 a 1", "strike 0 y m 1 b 1", "strike 1 x c 1")
        self.same(meetings(play), ((1, "m", ("x", "y")),))
        # What x got from y is lost by the strike; y has what was left of x.
        self.same([legs(play, "x")[1:], legs(play, "y")[1:]], [(("m", "c", 1, 2),), (("m", "a", 1, 2),)])

    def test_all_that_meet_may_be_struck_at_once(self):
        play = self.met("strike 0 x m 1 a 1", "strike 0 y m 1 b 1", "strike 1 x c 1", "strike 1 y d 1")
        self.same([legs(play, "x")[1:], legs(play, "y")[1:]], [(("m", "c", 1, 2),), (("m", "d", 1, 2),)])

    def test_to_meet_again_and_again(self):
        play = self.met("strike 0 x m 1 a 1 m 1 a 1", "strike 0 y m 1 b 1 m 1 b 1")
        self.same(meetings(play), ((1, "m", ("x", "y")), (3, "m", ("x", "y"))))
        self.same(legs(play, "x"), (("a", "m", 0, 1), ("m", "b", 1, 2), ("b", "m", 2, 3), ("m", "a", 3, 4)))


class Strikers(Case):
    def test_in_whose_room_and_where(self):
        play = play_of(["play", "strike 0 x m 1", "strike 1 x c 1", "strike 1 z m 1", "strike 2 x m 1 b 1"], STAR)
        self.same(strikers(play), (("p", "a"), ("p", "m"), ("q", "c"), ("q", "c")))
        # z comes to m in tick 2, and lies there as x comes by in tick 3.
        self.same(meetings(play), ())

    def test_who_strikes_a_ball_that_only_comes_by(self):
        play = play_of(["play", "strike 4 x m 3 c 1", "strike 7 x b 1"], STAR)
        self.same(strikers(play), (("p", "a"), ("p", "m")))
        self.same(legs(play, "x"), (("a", "m", 4, 7), ("m", "b", 7, 8)))


class LastTick(Case):
    def test_the_end_of_the_last_flight(self):
        self.same(last_tick(play_of(["play", "strike 7 x b 2 c 3"], LINE)), 12)
        self.same(last_tick(play_of(["play", "strike 7 x b 2 c 30", "strike 8 y b 3 c 3"], LINE)), 39)
        self.same(last_tick(play_of(["play", "strike 0 x b 2 a 2", "strike 4 x b 9 a 2"], LINE)), 15)


class WithStrike(Case):
    def test_at_its_place(self):
        play = play_of(PLAY, LINE)
        more = with_strike(play, (5, "x", (("b", 2), ("a", 2))))
        self.assertEqual(more, play_of(changed(PLAY, PLAY[3], "strike 5 x b 2 a 2", PLAY[3]), LINE))
        self.assertEqual(play, play_of(PLAY, LINE))
        self.same(len(play.strikes), 3)

    def test_by_the_balls_names_in_one_tick(self):
        play = play_of(["play", "strike 3 y m 1"], STAR)
        self.same(with_strike(play, (3, "x", (("m", 1),))).text, text_of(["play", "strike 3 x m 1", "strike 3 y m 1"]))
        self.same(with_strike(play, (3, "z", (("m", 1),))).text, text_of(["play", "strike 3 y m 1", "strike 3 z m 1"]))

    def test_the_first_and_the_last_one(self):
        play = with_strike(play_of(["play"], LINE), (99999, "x", (("b", 999), ("c", 999))))
        self.same(play.text, text_of(["play", "strike 99999 x b 999 c 999"]))
        play = with_strike(play, (0, "x", (("b", 2), ("a", 2))))
        self.same([strike[0] for strike in play.strikes], [0, 99999])

    def test_what_cannot_stand(self):
        play = play_of(PLAY, LINE)
        for strike in (
            (4, "x", (("a", 1),)), (20, "z", (("b", 2), ("a", 2))), (20, "p", (("b", 2), ("a", 2))),
            (20, "x", (("c", 9),)), (20, "x", (("b", 1), ("a", 2))), (20, "x", (("b", 2), ("a", 1))),
            (20, "x", (("b", 2),)), (20, "x", (("d", 2), ("a", 2))), (20, "x", (("a", 2), ("b", 2), ("a", 2))),
            (0, "x", (("b", 2), ("c", 3))), (0, "x", (("b", 3), ("c", 3))), (6, "y", (("b", 9), ("a", 2))),
            (1, "x", (("b", 2), ("a", 2))), (3, "x", (("a", 2),)), (7, "y", (("b", 3), ("c", 3))),
        ):
            self.refuses(CannotStand, strike, with_strike, play, strike)
        self.assertEqual(play, play_of(PLAY, LINE))

    def test_what_makes_a_later_strike_impossible(self):
        play = play_of(["play", "strike 10 x b 2 a 2"], LINE)
        for strike in ((7, "x", (("b", 2), ("a", 2))), (0, "x", (("b", 2), ("c", 3)))):
            self.refuses(CannotStand, strike, with_strike, play, strike)
        self.same(len(with_strike(play, (6, "x", (("b", 2), ("a", 2)))).strikes), 2)

    def test_a_forty_first_strike(self):
        play = play_of(["play"] + [f"strike {tick} x m 1 a 1" for tick in range(0, 78, 2)], STAR)
        play = with_strike(play, (500, "y", (("m", 1),)))
        self.same(len(play.strikes), 40)
        for strike in ((400, "z", (("m", 1),)), (600, "z", (("m", 1),))):
            self.refuses(CannotStand, strike, with_strike, play, strike)

    def test_values_of_other_forms(self):
        play = play_of(PLAY, LINE)
        course = (("b", 2), ("a", 2))
        wrong = [
            (20, "x"), (20, "x", course, 0), [20, "x", course], (20, "x", ()), (20, "x", list(course)),
            (20, "x", course * 12 + (("b", 2),)), (20, "x", (["b", 2],)), (20, "x", (("b",),)), (20, "x", (("b", 2, 2),)),
            (20, "x", ("b", 2)), (20, "x", (("b", 2), "a")), "strike 20 x b 2 a 2",
        ]
        for value in wrong_values():
            wrong += [value, (20, "x", value), (20, "x", (value,)), (20, "x", course + (value,))]
            wrong += [(value, "x", course), (20, "x", (("b", value),))]
            if value != "nobody":
                wrong += [(20, value, course), (20, "x", ((value, 2),))]
        wrong += [(20, "x", (("b", 0),)), (20, "x", (("b", 1000),)), (20, 3, course), (20, "x", ((3, 2),)), (True,) * 3]
        for value in wrong:
            self.refuses(BadStrike, value, with_strike, play, value)

    def test_the_greatest_course(self):
        course = (("b", 999), ("a", 999)) * 12
        self.same(with_strike(play_of(["play"], LINE), (3, "x", course)).strikes, ((3, "x", course),))
