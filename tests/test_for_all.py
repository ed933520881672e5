"""What sections 4 and 5 promise for all courts, plays and ticks, tried with many."""

from nevertakenback.courts import apart, delay, distance, give, owner, shortest, with_delay, with_length, with_stretch
from nevertakenback.errors import BadPlay
from nevertakenback.plays import Play, last_tick, legs, meetings, strikers, where, with_strike
from tests.models import rows_between, slow_play
from tests.samples import Case, any_court_lines, any_course, any_play, court_of, seed, text_of


class Courts(Case):
    def test_distances_and_shortest_rows(self):
        chance = seed(1)
        for _ in range(60):
            court = court_of(any_court_lines(chance, 6, chance.choice((2, 99))))
            for place in court.places:
                for other in court.places:
                    total, row = min(rows_between(court, place, other))
                    self.same(distance(court, place, other), total)
                    self.same(shortest(court, place, other), row)
                    self.same(distance(court, other, place), total)

    def test_a_distance_is_at_most_a_way_and_at_most_the_sum_by_a_third_place(self):
        chance = seed(2)
        for _ in range(40):
            court = court_of(any_court_lines(chance, 12, 99))
            for one, other, length in court.ways:
                self.assertLessEqual(distance(court, one, other), length)
            for one in court.places:
                for third in court.places:
                    for other in court.places:
                        way_round = distance(court, one, third) + distance(court, third, other)
                        self.assertLessEqual(distance(court, one, other), way_round)

    def test_what_is_told_of_players(self):
        chance = seed(3)
        for _ in range(60):
            court = court_of(any_court_lines(chance))
            rooms = dict(court.players)
            owners = {place: name for name, room in court.players for place in room}
            for place in court.places:
                self.same(owner(court, place), owners.get(place))
            told = []
            for one in rooms:
                for other in rooms:
                    far = [distance(court, place, end) for place in rooms[one] for end in rooms[other]]
                    self.same(apart(court, one, other), min(far))
                    if one != other:
                        ticks = delay(court, one, other)
                        told.append((one, other, ticks))
                        lines = [line for line in court.text.split("\n") if line.startswith(f"delay {one} {other} ")]
                        self.assertIn(lines, ([f"delay {one} {other} {ticks}"], [] if ticks == 0 else None))
                    else:
                        self.same(delay(court, one, other), 0)
            self.same(court.delays, tuple(told))

    def test_courts_with_something_else(self):
        chance = seed(6)
        for _ in range(60):
            court = court_of(any_court_lines(chance))
            one, other = chance.sample([name for name, _ in court.players], 2)
            ticks = chance.randint(0, 99)
            late = with_delay(court, one, other, ticks)
            rows = [row if row[:2] != (one, other) else (one, other, ticks) for row in court.delays]
            self.same(late.delays, tuple(rows))
            place, end, _ = chance.choice(court.ways)
            length = chance.randint(1, 99)
            longer = with_length(court, end, place, length)
            rows = [row if row[:2] != (place, end) else (place, end, length) for row in court.ways]
            self.same(longer.ways, tuple(rows))
            wide = with_stretch(court, (3, 4), (5, 4))
            self.same([wide.stretch, give(wide)], [((3, 4), (5, 4)), (1, 4)])
            for new in (late, longer, wide):
                for name in ("stretch", "places", "ways", "players", "delays", "balls"):
                    known = {"stretch": wide, "ways": longer, "delays": late}.get(name)
                    if new is not known:
                        self.same(getattr(new, name), getattr(court, name))


class Plays(Case):
    def any_plays(self, number, count):
        """Plays, mostly with strikes that can stand, most of them of small courts with many meetings."""
        chance = seed(number)
        for _ in range(count):
            court = court_of(any_court_lines(chance, chance.choice((3, 4, 6)), 2))
            play = any_play(chance, court)
            yield play

    def test_as_the_slow_play_tells_it(self):
        met = 0
        for play in self.any_plays(7, 250):
            slow = slow_play(play.court, play.strikes)
            self.assertEqual(last_tick(play), max([leg[3] for row in slow.legs.values() for leg in row], default=0))
            self.same(meetings(play), tuple(slow.meetings))
            self.same(strikers(play), tuple(slow.strikers))
            for ball, start in play.court.balls:
                self.same(legs(play, ball), tuple(slow.legs[ball]))
                for tick, spots in enumerate(slow.spots):
                    self.same(where(play, ball, tick), spots[ball])
            met += len(slow.meetings)
        self.assertGreater(met, 200)

    def test_legs_lead_from_place_to_place_and_take_at_least_the_lengths(self):
        for play in self.any_plays(8, 100):
            lengths = {}
            for one, other, length in play.court.ways:
                lengths[one, other] = lengths[other, one] = length
            for ball, place in play.court.balls:
                tick = 0
                for one, other, leaves, comes in legs(play, ball):
                    self.assertEqual(one, place)
                    self.assertGreaterEqual(leaves, tick)
                    self.assertGreaterEqual(comes - leaves, lengths[one, other])
                    place, tick = other, comes
                self.assertIsNotNone(owner(play.court, place))

    def test_no_ball_is_faster_than_the_ways(self):
        for play in self.any_plays(9, 60):
            for ball, _ in play.court.balls:
                spots = [(tick, where(play, ball, tick)) for tick in range(min(40, last_tick(play) + 1))]
                stays = [(tick, spot[1]) for tick, spot in spots if spot[0] == "at"]
                for tick, place in stays:
                    for later, other in stays:
                        if later >= tick:
                            self.assertLessEqual(distance(play.court, place, other), later - tick)

    def test_a_later_strike_changes_nothing_ahead_of_it(self):
        chance = seed(10)
        for play in self.any_plays(10, 60):
            tick = last_tick(play) // 2
            for ball, _ in play.court.balls:
                spot = where(play, ball, tick)
                if spot[0] == "at" and owner(play.court, spot[1]) is not None:
                    cut = [strike for strike in play.strikes if strike[0] < tick]
                    short = play.text.split("\n")[:1 + len(cut)]
                    shorter = Play(play.court, text_of(short))
                    more = with_strike(shorter, (tick, ball, any_course(chance, play.court, spot[1])))
                    for other, _ in play.court.balls:
                        for earlier in range(tick + 1):
                            self.same(where(more, other, earlier), where(play, other, earlier))

    def test_what_is_left_goes_on_as_if_under_the_other_ones_name(self):
        chance = seed(11)
        for _ in range(150):
            court = court_of(any_court_lines(chance, 4, 1))
            lines, planned = ["play"], []
            for ball, place in sorted(court.balls):
                course = any_course(chance, court, place)
                lines.append(f"strike 0 {ball} " + " ".join(f"{end} {ticks}" for end, ticks in course))
                tick = 0
                for end, ticks in course:
                    planned.append((place, end, tick, tick + ticks))
                    place, tick = end, tick + ticks
            play = Play(court, text_of(lines))
            self.same(sorted([leg for ball, _ in court.balls for leg in legs(play, ball)]), sorted(planned))

    def test_meetings_ascend_and_are_of_balls_that_come(self):
        for play in self.any_plays(12, 100):
            rows = meetings(play)
            self.assertEqual(list(rows), sorted(set(rows)))
            comes = {}
            for ball, _ in play.court.balls:
                for _, place, _, tick in legs(play, ball):
                    comes.setdefault((tick, place), []).append(ball)
            told = [(tick, place, tuple(sorted(balls))) for (tick, place), balls in comes.items() if len(balls) > 1]
            self.same(rows, tuple(sorted(told)))

    def test_equal_calls_return_equal_results(self):
        for play in self.any_plays(13, 30):
            again = Play(court_of(play.court.text.split("\n")), play.text)
            self.assertEqual(play, again)
            for _ in range(2):
                self.same([meetings(play), strikers(play)], [meetings(again), strikers(again)])
                for ball, _ in play.court.balls:
                    self.same(legs(play, ball), legs(again, ball))

    def test_what_was_told_may_be_handed_in_again(self):
        for play in self.any_plays(14, 40):
            built = Play(play.court, "play")
            for strike in play.strikes:
                built = with_strike(built, strike)
            self.same(built.text, play.text)
            with self.assertRaises(BadPlay):
                Play(play.court, play.text + "\n")
