"""Section 6: cones, what is at a place, and plays without some of their strikes."""

from nevertakenback.cones import balls_at, cone, first_unlike, kept, seen_alike
from nevertakenback.courts import distance
from nevertakenback.errors import BadNumbers, BadTick, NoPlace, Unlike
from nevertakenback.plays import Play, last_tick, strikers
from tests.models import rows_between, slow_play
from tests.samples import (
    LINE, PLAY, Case, any_court_lines, any_play, any_strike, changed, court_of, great_court_lines, play_of, seed, text_of,
    wrong_values,
)

# A ring of ways, rooms of several places, a place d that is in no room, and a short way round a long one.
ROUND = [
    "court", "stretch 1/2 2", "place a", "place b", "place c", "place d", "place e", "way a b 2", "way b c 3",
    "way c d 1", "way d a 2", "way a c 9", "way d e 4", "player p a b", "player q c", "player r e", "ball x a", "ball y c",
    "ball z e",
]


class Cones(Case):
    def test_tick_and_distance_together_are_just_the_tick(self):
        play = play_of(["play", "strike 3 x b 2 c 3", "strike 5 y b 3 a 2"], LINE)
        told = [
            ("a", 2, ()), ("a", 3, (0,)), ("a", 9, (0,)), ("a", 10, (0, 1)), ("b", 4, ()), ("b", 5, (0,)), ("b", 7, (0,)),
            ("b", 8, (0, 1)), ("c", 4, ()), ("c", 5, (1,)), ("c", 7, (1,)), ("c", 8, (0, 1)), ("c", 99999, (0, 1)),
        ]
        for place, tick, numbers in told:
            self.same(cone(play, place, tick), numbers)

    def test_by_the_least_distance_not_by_the_way_between(self):
        play = play_of(["play", "strike 0 x c 9", "strike 1 y a 9"], ROUND)
        self.same([cone(play, "c", tick) for tick in (0, 1, 2, 3)], [(), (1,), (1,), (0, 1)])
        self.same([cone(play, "e", tick) for tick in (5, 6)], [(), (0, 1)])

    def test_of_a_ball_that_is_struck_where_it_comes_by(self):
        play = play_of(["play", "strike 0 x b 3 c 3", "strike 3 x a 2"], ROUND)
        self.same([cone(play, "a", tick) for tick in (0, 4, 5)], [(0,), (0,), (0, 1)])
        self.same([cone(play, "b", tick) for tick in (1, 2, 3)], [(), (0,), (0, 1)])

    def test_of_no_strike(self):
        for court in (LINE, ROUND, great_court_lines()):
            play = play_of(["play"], court)
            self.same(cone(play, "a", 0), ())
            self.same(cone(play, "a", 99999), ())

    def test_wrong_arguments(self):
        play = play_of(PLAY, LINE)
        for call in (cone, balls_at):
            for value in wrong_values() + ["x", "p", ("a",)]:
                self.refuses(NoPlace, value, call, play, value, 3)
            for value in wrong_values() + ["3", (3, 1)]:
                self.refuses(BadTick, value, call, play, "a", value)
            for place, tick in (("d", -1), (None, True), ([], 100000)):
                self.in_sequence(call, (play, "a", 3), (1, NoPlace, place), (2, BadTick, tick))


class BallsAt(Case):
    def test_lying_leaving_flying_and_coming(self):
        play = play_of(["play", "strike 2 x b 3 c 4"], LINE)
        course = (("b", 3), ("c", 4))
        told = [
            ("a", 0, (("x", ()),)), ("a", 1, (("x", ()),)), ("a", 2, (("x", course),)), ("a", 3, ()), ("b", 4, ()),
            ("b", 5, (("x", course[1:]),)), ("b", 6, ()), ("c", 8, (("y", ()),)), ("c", 9, (("x", ()), ("y", ()))),
            ("c", 99999, (("x", ()), ("y", ()))), ("a", 99999, ()),
        ]
        for place, tick, balls in told:
            self.same(balls_at(play, place, tick), balls)

    def test_behind_the_meeting_and_the_strikes(self):
        lines = PLAY[:3] + ["strike 3 x c 3"]
        court = changed(LINE, "player p a", "player p a b")
        self.same(balls_at(play_of(PLAY, LINE), "b", 3), (("x", (("a", 2),)), ("y", (("c", 3),))))
        self.same(balls_at(play_of(lines, court), "b", 3), (("x", (("c", 3),)), ("y", (("c", 3),))))

    def test_a_ball_that_is_struck_as_it_comes(self):
        play = play_of(["play", "strike 0 x b 2 a 2", "strike 4 x b 7 a 2"], LINE)
        self.same([balls_at(play, "a", tick) for tick in (3, 4, 5)], [(), (("x", (("b", 7), ("a", 2))),), ()])

    def test_of_meetings_where_something_is_left_of_some(self):
        court = changed(ROUND, "player p a b", "player p a b d")
        play = play_of(["play", "strike 0 x d 2", "strike 0 y d 2 a 5", "strike 0 z d 4"], court)
        self.same(balls_at(play, "d", 2), (("x", (("a", 5),)), ("y", ())))
        self.same(balls_at(play, "d", 3), (("y", ()),))
        self.same(balls_at(play, "d", 4), (("y", ()), ("z", ())))

    def test_in_the_greatest_tick(self):
        play = play_of(["play", "strike 99999 x b 2 a 2"], LINE)
        self.same(balls_at(play, "a", 99999), (("x", (("b", 2), ("a", 2))),))
        self.same(balls_at(play, "a", 99998), (("x", ()),))

    def test_of_no_strike(self):
        play = play_of(["play"], great_court_lines())
        self.same(balls_at(play, "a", 0), tuple((ball, ()) for ball in "uvwxyz"))
        self.same(balls_at(play, "b", 99999), ())


class Kept(Case):
    def test_of_all_and_of_none(self):
        play = play_of(PLAY, LINE)
        self.assertEqual(kept(play, (0, 1, 2)), play)
        self.assertEqual(kept(play, ()), play_of(["play"], LINE))

    def test_what_cannot_stand_any_more_is_left_out(self):
        # From a there is no way of length 1 to d, and none to a: the others stand only behind the first one.
        play = play_of(["play", "strike 0 x c 9", "strike 9 x d 1 c 1", "strike 11 x a 9"], ROUND)
        told = [
            ((0,), (0,)), ((1,), ()), ((2,), ()), ((0, 1), (0, 1)), ((0, 2), (0, 2)), ((1, 2), ()), ((0, 1, 2), (0, 1, 2)),
        ]
        for numbers, stand in told:
            self.same(kept(play, numbers).strikes, tuple(play.strikes[number] for number in stand))

    def test_what_can_stand_only_as_others_are_left_out(self):
        play = play_of(PLAY, LINE)
        self.same(kept(play, (0, 2)).strikes, (play.strikes[0], play.strikes[2]))
        self.same(kept(play, (2,)).strikes, (play.strikes[2],))

    def test_a_ball_under_way_cannot_be_struck(self):
        court = changed(LINE, "player p a", "player p a b")
        play = play_of(["play", "strike 0 x b 3 a 5", "strike 3 x a 2", "strike 6 x b 2"], court)
        # Without the second strike x comes to a in tick 8 alone.
        self.same(kept(play, (0, 2)).strikes, (play.strikes[0],))
        self.same(kept(play, (0, 1)).strikes, play.strikes[:2])
        # Without the first one it lies at a, from where the course of the second one does not begin.
        self.same(kept(play, (1, 2)).strikes, (play.strikes[2],))

    def test_the_play_itself_stays(self):
        play = play_of(PLAY, LINE)
        kept(play, (0,))
        self.assertEqual(play, play_of(PLAY, LINE))
        self.same(balls_at(play, "b", 3), (("x", (("a", 2),)), ("y", (("c", 3),))))

    def test_values_that_are_no_numbers(self):
        play = play_of(PLAY, LINE)
        wrong = [
            (3,), (-1,), (0, 3), (-1, 0), (0, 0), (1, 0), (0, 2, 1), (0, 1, 1), (True,), (False,), (0, True), (False, 1),
            ("0",), (None,), ((0,),), (0, (1,)), [0], [0, 1], [], 0, 2, ((0, 1),), (0, 1, 2, 3), (10 ** 11,),
        ]
        for value in wrong + [value for value in wrong_values() if value != ()]:
            self.refuses(BadNumbers, value, kept, play, value)
        self.refuses(BadNumbers, (0,), kept, play_of(["play"], LINE), (0,))


class Unlikes(Case):
    def test_the_same_strikes(self):
        for lines in (PLAY, ["play"]):
            self.assertIs(first_unlike(play_of(lines, LINE), play_of(lines, LINE)), None)

    def test_a_strike_more(self):
        play = play_of(PLAY, LINE)
        for lines, told in (
            (PLAY[:3], (6, "c")), (PLAY + ["strike 12 x b 2 a 2"], (12, "a")), (PLAY[:1], (0, "a")), (PLAY[:2], (0, "c")),
            (PLAY + ["strike 99999 x b 2 a 2"], (99999, "a")),
        ):
            other = play_of(lines, LINE)
            self.same(first_unlike(play, other), told)
            self.same(first_unlike(other, play), told)
            self.assertFalse(seen_alike(play, other, told[1], told[0]))

    def test_places_in_the_sequence_of_the_court(self):
        lines = [LINE[0], LINE[1], "place c", "place b", "place a"] + LINE[5:]
        self.same(first_unlike(play_of(PLAY, lines), play_of(["play"], lines)), (0, "c"))
        self.same(first_unlike(play_of(PLAY, LINE), play_of(["play"], LINE)), (0, "a"))

    def test_a_strike_that_changes_nothing(self):
        court = changed(LINE, "player p a", "player p a b")
        lines = ["play", "strike 0 x b 2 a 7"]
        one, other = play_of(lines, court), play_of(lines + ["strike 2 x a 7"], court)
        self.assertNotEqual(one, other)
        self.assertIs(first_unlike(one, other), None)
        self.assertIs(first_unlike(other, one), None)
        later = play_of(lines + ["strike 2 x a 8"], court)
        self.same(first_unlike(one, later), (2, "b"))

    def test_unlike_only_as_a_ball_is_not_there(self):
        # Both have the same strike of x, but y is struck in one of them: c lacks it one tick later, too.
        one = play_of(["play", "strike 0 x b 2 c 3"], LINE)
        other = play_of(["play", "strike 0 x b 2 c 3", "strike 5 y b 3 a 2"], LINE)
        self.same(first_unlike(one, other), (5, "c"))
        told = [seen_alike(one, other, "c", tick) for tick in (4, 5, 6, 7)]
        self.same(told, [True, False, False, False])
        self.same([seen_alike(one, other, "b", tick) for tick in (7, 8, 9)], [True, False, True])

    def test_unlike_courts(self):
        play = play_of(PLAY, LINE)
        other = play_of(PLAY, changed(LINE, "delay p q 3", "delay p q 2"))
        self.refuses(Unlike, None, first_unlike, play, other)
        self.refuses(Unlike, None, seen_alike, play, other, "a", 3)
        self.refuses(Unlike, None, first_unlike, play_of(["play"], LINE), play_of(["play"], ROUND))

    def test_wrong_arguments(self):
        play = play_of(PLAY, LINE)
        other = play_of(PLAY, changed(LINE, "delay p q 3", "delay p q 2"))
        for value in wrong_values() + ["x", "p"]:
            self.refuses(NoPlace, value, seen_alike, play, play, value, 3)
        for value in wrong_values() + ["3"]:
            self.refuses(BadTick, value, seen_alike, play, play, "a", value)
        due = ((1, Unlike, other, None), (2, NoPlace, "d"), (3, BadTick, True))
        self.in_sequence(seen_alike, (play, play, "a", 3), *due)


class ForAll(Case):
    def plays(self, number, count):
        """Plays in which balls often meet, and a source of chance."""
        chance = seed(number)
        for _ in range(count):
            court = court_of(any_court_lines(chance, chance.choice((3, 4, 6)), chance.choice((2, 3))))
            yield chance, any_play(chance, court)

    def test_cones_as_section_6_tells_them(self):
        for chance, play in self.plays(20, 60):
            for place in play.court.places:
                far = {at: min(rows_between(play.court, at, place))[0] for at in play.court.places}
                for tick in range(0, last_tick(play) + 12):
                    rows = enumerate(zip(play.strikes, strikers(play)))
                    told = [number for number, (strike, (_, at)) in rows if strike[0] + far[at] <= tick]
                    self.same(cone(play, place, tick), tuple(told))

    def test_balls_as_the_slow_play_tells_them(self):
        for _, play in self.plays(21, 150):
            slow = slow_play(play.court, play.strikes)
            for tick, there in enumerate(slow.there):
                for place in play.court.places:
                    self.same(balls_at(play, place, tick), there[place])

    def test_kept_as_the_slow_play_tells_it(self):
        fallen = 0
        for chance, play in self.plays(22, 500):
            numbers = tuple(number for number in range(len(play.strikes)) if chance.random() < 0.6)
            stand = []
            for number in numbers:
                if slow_play(play.court, stand + [play.strikes[number]]) is not None:
                    stand.append(play.strikes[number])
            self.same(kept(play, numbers).strikes, tuple(stand))
            self.assertEqual(kept(play, numbers).court, play.court)
            fallen += len(numbers) - len(stand)
        self.assertGreater(fallen, 30)

    def test_kept_of_a_cone_is_seen_alike(self):
        for _, play in self.plays(23, 80):
            for tick in range(0, min(30, last_tick(play) + 4)):
                for place in play.court.places:
                    numbers = cone(play, place, tick)
                    alone = kept(play, numbers)
                    self.assertIs(seen_alike(play, alone, place, tick), True)
                    self.same(alone.strikes, tuple(play.strikes[number] for number in numbers))

    def test_strikes_outside_of_a_cone_change_nothing(self):
        for chance, play in self.plays(24, 120):
            for _ in range(12):
                place, tick = chance.choice(play.court.places), chance.randint(0, last_tick(play) + 2)
                inside = cone(play, place, tick)
                numbers = [number for number in range(len(play.strikes)) if number in inside or chance.random() < 0.5]
                other = kept(play, tuple(numbers))
                self.assertTrue(set(other.strikes) >= {play.strikes[number] for number in inside})
                for _ in range(3):
                    more = any_strike(chance, other, chance.randint(0, tick + 3))
                    if more is not None and len(cone(more, place, tick)) == len(cone(other, place, tick)):
                        other = more
                self.same(balls_at(other, place, tick), balls_at(play, place, tick))
                self.assertIs(seen_alike(play, other, place, tick), True)
                self.same(len(cone(other, place, tick)), len(inside))

    def test_first_unlike_is_the_first_one_of_all(self):
        found = set()
        for chance, play in self.plays(25, 150):
            numbers = tuple(number for number in range(len(play.strikes)) if chance.random() < 0.8)
            other = kept(play, numbers)
            ticks = range(0, max(last_tick(play), last_tick(other)) + 3)
            all_unlike = [
                (tick, place) for tick in ticks for place in play.court.places if not seen_alike(play, other, place, tick)
            ]
            self.same(first_unlike(play, other), all_unlike[0] if all_unlike else None)
            found.add(bool(all_unlike))
        self.assertEqual(found, {False, True})

    def test_news_of_what_is_unlike_goes_at_full_speed_at_most(self):
        for chance, play in self.plays(26, 60):
            tick = chance.randint(0, last_tick(play) + 1)
            more = any_strike(chance, play, tick)
            if more is None:
                continue
            new = [number for number, strike in enumerate(more.strikes) if strike not in play.strikes][0]
            start = strikers(more)[new][1]
            for place in play.court.places:
                for early in range(tick + distance(play.court, start, place)):
                    self.assertIs(seen_alike(play, more, place, early), True)

    def test_equal_calls_return_equal_results(self):
        for _, play in self.plays(27, 20):
            again = Play(court_of(play.court.text.split("\n")), play.text)
            for place in play.court.places:
                for _ in range(2):
                    self.same(balls_at(play, place, 3), balls_at(again, place, 3))
                    self.same(cone(play, place, 3), cone(again, place, 3))
            self.assertIs(first_unlike(play, again), None)
            self.assertEqual(again.text, text_of(["play"] + again.text.split("\n")[1:]))
