"""Section 10: what is seen of the balls, and when."""

from nevertakenback.courts import with_stretch
from nevertakenback.errors import BadField, BadTime, NoBall, Steep
from nevertakenback.fields import field_on, greatest_field
from nevertakenback.plays import legs
from nevertakenback.sights import seen_legs, sight, spot, stretches, tick_seen
from tests.samples import LINE, PLAY, Case, changed, court_of, great_court_lines, play_of, wrong_rows, wrong_values
from tests.test_cones import ROUND
from tests.test_fields import whole

FIELD = ((1, 2), (3, 2), (3, 1))


class SeenLegs(Case):
    def test_ticks_and_the_field_there(self):
        play = play_of(PLAY, LINE)
        self.same(seen_legs(play, FIELD, "x"), (("a", "b", (1, 2), (9, 2)), ("b", "a", (9, 2), (11, 2))))
        told = (
            ("c", "b", (3, 1), (9, 2)), ("b", "c", (9, 2), (9, 1)), ("c", "b", (9, 1), (23, 2)), ("b", "a", (23, 2), (25, 2)),
        )
        self.same(seen_legs(play, FIELD, "y"), told)
        self.same([row[:2] for row in told], [leg[:2] for leg in legs(play, "y")])

    def test_in_a_field_of_0_all_is_seen_as_it_is(self):
        play = play_of(PLAY, LINE)
        self.same(seen_legs(play, whole(0, 0, 0), "x"), (("a", "b", (0, 1), (3, 1)), ("b", "a", (3, 1), (5, 1))))
        self.same(stretches(play, whole(0, 0, 0), "y"), whole(1, 1, 1, 1))

    def test_in_a_field_that_is_alike_all_over(self):
        play = play_of(PLAY, LINE)
        self.same(seen_legs(play, ((7, 3),) * 3, "x"), (("a", "b", (7, 3), (16, 3)), ("b", "a", (16, 3), (22, 3))))
        self.same(stretches(play, ((7, 3),) * 3, "x"), whole(1, 1))

    def test_of_no_flight(self):
        play = play_of(["play"], LINE)
        self.same([seen_legs(play, FIELD, "x"), stretches(play, FIELD, "y")], [(), ()])

    def test_fields_that_change_by_more_than_a_ways_length(self):
        # Neither is told a time: the field may be as steep as it will, and a flight be seen to end ahead of its start.
        play = play_of(["play", "strike 1 x b 2 a 4"], LINE)
        self.same(seen_legs(play, whole(9, 0, 0), "x"), (("a", "b", (10, 1), (3, 1)), ("b", "a", (3, 1), (16, 1))))
        self.same(stretches(play, whole(9, 0, 0), "x"), ((-7, 2), (13, 4)))
        self.same(stretches(play, whole(2, 0, 0), "x"), ((0, 1), (3, 2)))

    def test_stretches_by_how_long_a_flight_takes(self):
        play = play_of(["play", "strike 0 x b 2 a 7", "strike 20 y b 999 c 3"], LINE)
        self.same(stretches(play, FIELD, "x"), ((3, 2), (6, 7)))
        self.same(stretches(play, FIELD, "y"), ((665, 666), (3, 2)))

    def test_flights_behind_the_last_tick(self):
        play = play_of(["play", "strike 99999 x b 2 a 2"], LINE)
        self.same(seen_legs(play, FIELD, "x")[1], ("b", "a", (200005, 2), (200007, 2)))
        self.same(spot(play, FIELD, "x", (100002, 1)), ("on", "a", "b", (5, 6)))

    def test_wrong_arguments(self):
        play = play_of(PLAY, LINE)
        for call in (seen_legs, stretches):
            for value in wrong_rows(FIELD):
                self.refuses(BadField, value, call, play, value, "x")
            for value in wrong_values() + ["a", "p"]:
                self.refuses(NoBall, value, call, play, FIELD, value)
                self.refuses(NoBall, value, call, play, whole(99, 0, 0), value)
            self.in_sequence(call, (play, FIELD, "x"), (1, BadField, FIELD[:2]), (2, NoBall, ("x",)))


class Spots(Case):
    def see(self, play, field, ball, *rows):
        for time, tick, seen in rows:
            self.same(tick_seen(play, field, ball, time), tick)
            self.same(spot(play, field, ball, time), seen)
            self.assertIn((ball, seen), sight(play, field, time))

    def test_as_a_ball_is_just_seen_to_leave_and_to_come(self):
        play = play_of(["play", "strike 4 x b 2", "strike 9 x a 4"], changed(LINE, "player p a", "player p a b"))
        # a is seen 1/2 late, b 3/2: the first flight is seen from 9/2 to 15/2, the second one from 21/2 to 27/2.
        self.see(
            play, FIELD, "x",
            ((0, 1), (-1, 2), ("at", "a")), ((1, 2), (0, 1), ("at", "a")), ((22, 5), (39, 10), ("at", "a")),
            ((9, 2), (4, 1), ("at", "a")), ((23, 5), (61, 15), ("on", "a", "b", (1, 30))),
            ((6, 1), (5, 1), ("on", "a", "b", (1, 2))), ((37, 5), (89, 15), ("on", "a", "b", (29, 30))),
            ((15, 2), (6, 1), ("at", "b")), ((38, 5), (61, 10), ("at", "b")), ((21, 2), (9, 1), ("at", "b")),
            ((12, 1), (11, 1), ("on", "b", "a", (1, 2))), ((27, 2), (13, 1), ("at", "a")), ((30, 1), (59, 2), ("at", "a")),
        )

    def test_ahead_of_all_ticks_and_behind_all_flights(self):
        play = play_of(PLAY, LINE)
        self.see(play, FIELD, "y", ((0, 1), (-3, 1), ("at", "c")), ((3, 1), (0, 1), ("at", "c")))
        self.see(play, FIELD, "y", ((25, 2), (12, 1), ("at", "a")), ((10 ** 6, 1), (1999999, 2), ("at", "a")))
        self.see(play_of(["play"], LINE), FIELD, "y", ((7, 3), (-2, 3), ("at", "c")), ((7, 1), (4, 1), ("at", "c")))

    def test_a_flight_behind_another_one_without_a_stop(self):
        play = play_of(["play", "strike 0 x b 2 c 3"], LINE)
        self.see(
            play, FIELD, "x",
            ((3, 1), (5, 3), ("on", "a", "b", (5, 6))), ((7, 2), (2, 1), ("at", "b")),
            ((4, 1), (7, 3), ("on", "b", "c", (1, 9))), ((8, 1), (5, 1), ("at", "c")),
        )

    def test_balls_that_meet(self):
        # Both come to b in tick 3, seen at 9/2; x goes on with the course of y, and y with that of x.
        play = play_of(PLAY, LINE)
        self.see(play, FIELD, "x", ((9, 2), (3, 1), ("at", "b")), ((19, 4), (7, 2), ("on", "b", "a", (1, 4))))
        self.see(play, FIELD, "y", ((9, 2), (3, 1), ("at", "b")), ((27, 4), (9, 2), ("on", "b", "c", (1, 2))))
        self.same(sight(play, FIELD, (9, 2)), (("x", ("at", "b")), ("y", ("at", "b"))))

    def test_in_a_field_of_0(self):
        play = play_of(PLAY, LINE)
        for tick, seen in ((0, ("at", "a")), (1, ("on", "a", "b", (1, 3))), (3, ("at", "b")), (4, ("on", "b", "a", (1, 2)))):
            self.see(play, whole(0, 0, 0), "x", ((tick, 1), (tick, 1), seen))

    def test_all_balls_in_the_courts_sequence(self):
        play = play_of(["play"], great_court_lines())
        self.same(sight(play, whole(*range(12)), (5, 1)), tuple((ball, ("at", "a")) for ball in "uvwxyz"))
        lines = LINE[:-2] + ["ball y c", "ball x a"]
        self.same(sight(play_of(PLAY, lines), FIELD, (10, 1)), (("y", ("on", "c", "b", (2, 5))), ("x", ("at", "a"))))

    def test_three_balls_on_a_ring_of_ways(self):
        play = play_of(["play", "strike 0 x b 2 c 3 d 1 a 2", "strike 1 y d 1 e 4", "strike 2 z d 4 c 1"], ROUND)
        field = ((1, 1), (0, 1), (2, 1), (3, 2), (4, 1))
        seen = (("x", ("on", "b", "c", (4, 5))), ("y", ("on", "d", "e", (5, 13))), ("z", ("at", "e")))
        self.same(sight(play, field, (6, 1)), seen)
        for ball, place in seen:
            at = tick_seen(play, field, ball, (6, 1))
            late = field_on(play.court, field, place)
            self.same((at[0] * late[1] + late[0] * at[1], at[1] * late[1]), (6 * at[1] * late[1], at[1] * late[1]))

    def test_as_little_as_the_stretch_lets_and_as_much(self):
        court = court_of(changed(LINE, "stretch 1/2 2", "stretch 1/2 3/2"))
        field = greatest_field(court, ((1, 2), (0, 1)), "q")
        self.same(field, ((5, 2), (3, 2), (0, 1)))
        play = play_of(["play", "strike 0 x b 2 c 3", "strike 9 y b 3 a 2"], court.text.split("\n"))
        self.same([stretches(play, field, "x"), stretches(play, field, "y")], [((1, 2), (1, 2)), ((3, 2), (3, 2))])


class Steeps(Case):
    def told(self, told, field, lines=LINE):
        play = play_of(["play"], lines)
        ball = play.court.balls[0][0]
        if told is None:
            self.same([spot(play, field, ball, (0, 1))[0], tick_seen(play, field, ball, (0, 1))[0] <= 0], ["at", True])
            self.same(len(sight(play, field, (0, 1))), len(play.court.balls))
            return
        self.refuses(Steep, told, spot, play, field, ball, (0, 1))
        self.refuses(Steep, told, tick_seen, play, field, ball, (0, 1))
        self.refuses(Steep, told, sight, play, field, (0, 1))
        self.same(seen_legs(play, field, ball), ())

    def test_by_just_a_ways_length_and_by_a_little_less(self):
        self.told(("a", "b"), whole(0, 2, 2))
        self.told(("a", "b"), whole(2, 0, 0))
        self.told(None, ((0, 1), (199, 100), (2, 1)))
        self.told(None, ((199, 100), (0, 1), (0, 1)))
        self.told(("b", "c"), whole(0, 0, 3))
        self.told(("b", "c"), whole(3, 3, 0))
        self.told(None, ((0, 1), (0, 1), (299, 100)))
        self.told(None, ((0, 1), (199, 100), (249, 50)))

    def test_the_first_way_as_it_stands(self):
        self.told(("a", "b"), whole(9, 0, 9))
        self.told(("b", "a"), whole(9, 0, 9), changed(LINE, "way a b 2", "way b a 2"))
        lines = LINE[:5] + ["way c b 3", "way a b 2"] + LINE[7:]
        self.told(("c", "b"), whole(9, 0, 9), lines)
        self.told(("a", "b"), whole(9, 0, 0), lines)
        self.told(("d", "a"), ((2, 1), (1, 1), (1, 2), (0, 1), (1, 1)), ROUND)

    def test_a_way_that_is_longer_than_the_distance(self):
        # a c is 9 long, and 3 by d: it is the shorter ways that a field may be too steep for.
        self.told(None, ((0, 1), (1, 1), (5, 2), (8, 5), (2, 1)), ROUND)
        self.told(("c", "d"), ((0, 1), (1, 1), (5, 2), (3, 2), (2, 1)), ROUND)

    def test_where_balls_fly_does_not_matter(self):
        play = play_of(["play", "strike 0 x b 2 a 2"], LINE)
        self.refuses(Steep, ("b", "c"), spot, play, whole(0, 0, 3), "x", (1, 1))


class Refused(Case):
    def test_what_is_no_field(self):
        play = play_of(PLAY, LINE)
        for value in wrong_rows(FIELD):
            self.refuses(BadField, value, spot, play, value, "x", (1, 1))
            self.refuses(BadField, value, tick_seen, play, value, "x", (1, 1))
            self.refuses(BadField, value, sight, play, value, (1, 1))

    def test_what_is_no_ball(self):
        play = play_of(PLAY, LINE)
        for value in wrong_values() + ["a", "p", "xy"]:
            self.refuses(NoBall, value, spot, play, FIELD, value, (1, 1))
            self.refuses(NoBall, value, tick_seen, play, FIELD, value, (1, 1))

    def test_what_is_no_time(self):
        play = play_of(PLAY, LINE)
        wrong = [0, 1, (-1, 1), (-1, 2), (0, 2), (2, 4), (1, 0), (0, 0), (1, -1), (-1, -1), (True, 1), (1, True), [1, 2]]
        for value in wrong + [(1,), (1, 2, 3), ("1", "2"), "1", ((1, 2),), (1, None)] + wrong_values():
            self.refuses(BadTime, value, spot, play, FIELD, "x", value)
            self.refuses(BadTime, value, tick_seen, play, FIELD, "x", value)
            self.refuses(BadTime, value, sight, play, FIELD, value)

    def test_several_wrong_arguments(self):
        play = play_of(PLAY, LINE)
        steep = whole(5, 0, 0)
        for call in (spot, tick_seen):
            due = ((1, BadField, list(FIELD)), (2, NoBall, "p"), (3, BadTime, (2, 4)), (1, Steep, steep, ("a", "b")))
            self.in_sequence(call, (play, FIELD, "x", (1, 1)), *due)
        due = ((1, BadField, FIELD + FIELD), (2, BadTime, 1), (1, Steep, steep, ("a", "b")))
        self.in_sequence(sight, (play, FIELD, (1, 1)), *due)

    def test_a_court_whose_stretch_gives_nothing(self):
        court = with_stretch(court_of(LINE), (1, 1), (1, 1))
        play = play_of(PLAY, court.text.split("\n"))
        self.same(spot(play, FIELD, "x", (5, 2)), ("on", "a", "b", (1, 2)))
