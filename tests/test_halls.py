"""Section 13: halls, and the deeds that lead them."""

from nevertakenback.errors import BadCourse, BadDeed, BadTime, Full, NoBall, NoLetter, NoPlayer, NotSeen, Ring
from nevertakenback.fields import all_fields
from nevertakenback.halls import Hall
from nevertakenback.plays import Play
from nevertakenback.rings import holds
from tests.samples import TRIANGLE, Case, changed, court_of, great_court_lines, wrong_values
from tests.test_fields import whole
from tests.test_rings import CALM, STAR, WHEEL

# The court of the example in section 13, with two balls more.
COURT = [
    "court", "stretch 1/2 3/2", "place a", "place b", "way a b 4", "player ann a", "player bob b", "delay bob ann 2",
    "ball x a", "ball y a", "ball z b",
]
# Three players in a row; what ann does bob knows 1 later and cid 6 later, so that cid lags 2.
ROW = [
    "court", "stretch 1/2 2", "place a", "place b", "place c", "way a b 4", "way b c 4", "player ann a", "player bob b",
    "player cid c", "delay bob ann 1", "delay cid ann 6", "ball x a", "ball y b",
]
TO_B, TO_A = (("b", 4),), (("a", 4),)


def hall_of(lines=COURT):
    return Hall(court_of(lines))


def waited(lines, *time):
    hall = hall_of(lines)
    hall.do(("wait", time))
    return hall


class HallCase(Case):
    def state(self, hall):
        return [hall.lags, hall.fields, hall.clock, hall.play, hall.bag, [hall.seen(name) for name, _ in hall.court.players]]

    def refused(self, error, value, hall, deed):
        """The deed is refused, and changes nothing."""
        before = self.state(hall)
        self.refuses(error, value, hall.do, deed)
        self.same(self.state(hall), before)


class Making(HallCase):
    def test_at_first(self):
        for lines in (COURT, ROW, CALM, WHEEL, TRIANGLE):
            court = court_of(lines)
            hall = Hall(court)
            self.assertEqual(hall.court, court)
            self.same(hall.lags, holds(court)[1])
            self.same(hall.fields, all_fields(court, hall.lags))
            self.same([hall.clock, hall.play.text, hall.bag, hall.check()], [(0, 1), "play", (), ("right",)])
            self.assertEqual(hall.play, Play(court, "play"))
            for name, _ in court.players:
                self.same(hall.seen(name), tuple((ball, ("at", place)) for ball, place in court.balls))

    def test_lags_that_are_not_0(self):
        hall = hall_of(CALM)
        self.same(hall.lags, whole(1, 0, 2))
        self.same(hall.fields[0], whole(1, 3, 5, 3))
        hall = hall_of(ROW)
        self.same(hall.lags, whole(0, 0, 2))

    def test_a_ring_that_bars_all_lags(self):
        court = court_of(STAR)
        self.refuses(Ring, holds(court)[1], Hall, court)
        court = court_of(great_court_lines())
        self.refuses(Ring, holds(court)[1], Hall, court)
        court = court_of(changed(COURT, "stretch 1/2 3/2", "stretch 1 99"))
        self.refuses(Ring, holds(court)[1], Hall, court)

    def test_where_nothing_is_given_and_nothing_is_late(self):
        lines = changed(COURT, "stretch 1/2 3/2", "stretch 1 1")
        lines.remove("delay bob ann 2")
        hall = hall_of(lines)
        hall.do(("strike", "ann", "x", TO_B))
        hall.do(("wait", (3, 1)))
        spot = ("on", "a", "b", (3, 4))
        self.same([hall.seen("ann")[0], hall.seen("bob")[0], hall.check()], [("x", spot), ("x", spot), ("right",)])


class Waiting(HallCase):
    def test_the_clock(self):
        hall = hall_of()
        for time in ((0, 1), (1, 3), (1, 3), (7, 2), (99998, 1), (99999, 1), (99999, 1)):
            self.assertIs(hall.do(("wait", time)), None)
            self.same(hall.clock, time)

    def test_times_that_are_refused(self):
        hall = waited(COURT, 7, 2)
        for time in ((0, 1), (3, 1), (10, 3), (-7, 2), (100000, 1), (199999, 2), (99999 * 7 + 1, 7), (10 ** 11, 1)):
            self.refused(BadTime, time, hall, ("wait", time))
        for time in wrong_values() + [7, "7", (8, 2), (True, 1), (4, True), [4, 1], (4, 0), (4, 1, 1), ("4", 1)]:
            self.refused(BadTime, time, hall, ("wait", time))
        self.assertIs(hall.do(("wait", (7, 2))), None)

    def test_letters_are_heard_when_they_are_due(self):
        hall = waited(COURT, 3, 1)
        hall.do(("strike", "ann", "x", TO_B))
        hall.do(("wait", (14, 3)))
        self.same(hall.engines["bob"].story((99, 1)), ())
        hall.do(("wait", (5, 1)))
        self.same(hall.engines["bob"].story((99, 1)), ((3, "x", TO_B),))
        self.same(len(hall.bag), 1)

    def test_due_ones_of_several_players_and_numbers(self):
        hall = hall_of(ROW)
        hall.do(("strike", "ann", "x", TO_B))
        hall.do(("wait", (2, 1)))
        hall.do(("strike", "bob", "y", (("c", 4),)))
        self.same([row[:2] for row in hall.bag], [(1, "bob"), (2, "cid"), (3, "ann"), (4, "cid")])
        for time, counts in (((2, 1), [2, 2, 1]), ((11, 2), [2, 2, 1]), ((6, 1), [2, 2, 2])):
            hall.do(("wait", time))
            self.same([len(hall.engines[name].story((99, 1))) for name in ("ann", "bob", "cid")], counts)


class Striking(HallCase):
    def test_the_letter_the_play_and_the_bag(self):
        hall = waited(ROW, 2, 1)
        letter = hall.do(("strike", "bob", "y", (("c", 4),)))
        self.same(letter, ("strike", "bob", 0, (2, "y", (("c", 4),))))
        self.same(hall.bag, ((1, "ann", letter), (2, "cid", letter)))
        self.same(hall.play.strikes, (letter[3],))
        more = hall.do(("strike", "ann", "x", TO_B))
        self.same(more, ("strike", "ann", 0, (2, "x", TO_B)))
        self.same(hall.bag, ((1, "ann", letter), (2, "cid", letter), (3, "bob", more), (4, "cid", more)))
        self.same([strike[1] for strike in hall.play.strikes], ["x", "y"])

    def test_by_the_clock_and_the_lag(self):
        hall = hall_of(CALM)
        self.refused(NotSeen, "x", hall, ("strike", "ann", "x", (("m", 4), ("a", 4))))
        hall.do(("wait", (3, 2)))
        self.refused(NotSeen, "x", hall, ("strike", "ann", "x", (("m", 4), ("a", 4))))
        hall.do(("wait", (2, 1)))
        self.same(hall.do(("strike", "ann", "x", (("m", 4), ("a", 4))))[3][0], 1)

    def test_a_strike_of_a_greater_lag_stands_ahead_of_one_that_was_done_sooner(self):
        hall = waited(changed(ROW, "ball y b", "ball y b", "ball z c"), 2, 1)
        hall.do(("strike", "bob", "y", TO_A))
        hall.do(("wait", (3, 1)))
        self.same(hall.do(("strike", "cid", "z", TO_B))[3][0], 1)
        self.same([strike[:2] for strike in hall.play.strikes], [(1, "z"), (2, "y")])
        self.same(hall.check(), ("right",))

    def test_letters_without_delay_are_heard_at_once(self):
        hall = hall_of()
        hall.do(("strike", "bob", "z", TO_A))
        self.same([hall.engines["ann"].story((0, 1)), len(hall.bag)], [((0, "z", TO_A),), 1])
        hall.do(("strike", "ann", "x", TO_B))
        self.same([len(hall.engines["bob"].story((99, 1))), len(hall.bag)], [1, 2])

    def test_strikes_at_the_last_tick(self):
        hall = waited(COURT, 99999, 1)
        self.same(hall.do(("strike", "ann", "x", TO_B))[3][0], 99999)
        self.same([hall.check(), hall.seen("ann")[0]], [("right",), ("x", ("at", "a"))])
        self.refused(BadTime, (100000, 1), hall, ("wait", (100000, 1)))

    def test_what_is_refused(self):
        hall = waited(COURT, 5, 1)
        for value in wrong_values() + ["a", "x", "cid"]:
            self.refused(NoPlayer, value, hall, ("strike", value, "x", TO_B))
        for value in wrong_values() + ["a", "ann", "v"]:
            self.refused(NoBall, value, hall, ("strike", "ann", value, TO_B))
        self.refused(NotSeen, "z", hall, ("strike", "ann", "z", TO_B))
        self.refused(NotSeen, "x", hall, ("strike", "bob", "x", TO_A))
        for value in wrong_values() + [(("b", 3),), (("a", 4),), (("b", 4), ("b", 4)), [("b", 4)], (("b", 1000),)]:
            self.refused(BadCourse, value, hall, ("strike", "ann", "x", value))
        self.refused(NoPlayer, 1, hall, ("strike", 1, 2, 3))
        self.refused(NoBall, 2, hall, ("strike", "ann", 2, 3))
        self.refused(NotSeen, "z", hall, ("strike", "ann", "z", 3))

    def test_between_two_ticks(self):
        hall = waited(COURT, 5, 2)
        self.refused(NotSeen, "x", hall, ("strike", "ann", "x", TO_B))

    def test_a_second_strike_in_one_tick(self):
        hall = waited(COURT, 5, 1)
        hall.do(("strike", "ann", "y", TO_B))
        self.refused(NotSeen, "x", hall, ("strike", "ann", "x", TO_B))
        self.refused(NotSeen, "y", hall, ("strike", "ann", "y", TO_B))
        self.same(hall.do(("strike", "bob", "z", TO_A))[2], 0)
        hall = waited(COURT, 5, 1)
        hall.do(("strike", "ann", "x", TO_B))
        self.same(hall.do(("strike", "ann", "y", TO_B))[2], 1)

    def test_a_ball_that_comes_in_just_this_tick(self):
        hall = hall_of()
        hall.do(("strike", "ann", "x", (("b", 4), ("a", 5))))
        for time in ((2, 1), (15, 4)):
            hall.do(("wait", time))
            self.refused(NotSeen, "x", hall, ("strike", "bob", "x", TO_A))
        hall.do(("wait", (4, 1)))
        self.same(hall.do(("strike", "bob", "x", (("a", 7),)))[3], (4, "x", (("a", 7),)))
        hall.do(("wait", (11, 1)))
        self.same([hall.seen("ann")[0], hall.check()], [("x", ("at", "a")), ("right",)])

    def test_no_more_than_40(self):
        hall = hall_of()
        for at in range(20):
            hall.do(("strike", "ann", "x", TO_B))
            hall.do(("wait", (4 + 8 * at, 1)))
            hall.do(("strike", "bob", "x", TO_A))
            hall.do(("wait", (8 + 8 * at, 1)))
        self.same([len(hall.play.strikes), len(hall.bag), hall.check()], [40, 40, ("right",)])
        for deed in (("strike", "ann", "x", TO_B), ("strike", "bob", "v", None), ("strike", "ann", None, None)):
            self.refused(Full, 40, hall, deed)
        self.refused(NoPlayer, "cid", hall, ("strike", "cid", "x", TO_B))
        self.assertIs(hall.do(("wait", (200, 1))), None)
        self.assertIs(hall.do(("lose", 40)), None)
        self.same(hall.seen("bob")[0], ("x", ("at", "a")))


class Letters(HallCase):
    def struck(self):
        """A hall in which bob did not hear of a strike of ann's in tick 3 yet."""
        hall = waited(COURT, 3, 1)
        hall.do(("strike", "ann", "x", TO_B))
        return hall

    def heard(self, hall):
        return hall.engines["bob"].story((99999, 1)) != ()

    def test_handed_it_is_heard_and_stays_in_the_bag(self):
        hall = self.struck()
        bag = hall.bag
        for _ in range(3):
            self.assertIs(hall.do(("hand", 1)), None)
            self.same([hall.bag, self.heard(hall), hall.check()], [bag, True, ("right",)])
        # Handed sooner it moves nothing that is seen.
        self.same(hall.seen("bob")[0], ("x", ("at", "a")))
        hall.do(("wait", (9, 1)))
        self.same([hall.bag, hall.seen("bob")[0]], [bag, ("x", ("at", "b"))])
        self.assertIs(hall.do(("hand", 1)), None)

    def test_lost_it_is_heard_all_the_same_when_it_is_due(self):
        hall = self.struck()
        self.assertIs(hall.do(("lose", 1)), None)
        self.same([hall.bag, self.heard(hall)], [(), False])
        hall.do(("wait", (9, 2)))
        self.same(self.heard(hall), False)
        hall.do(("wait", (5, 1)))
        self.same([hall.bag, self.heard(hall), hall.check()], [(), True, ("right",)])

    def test_lost_behind_having_been_heard(self):
        hall = self.struck()
        hall.do(("hand", 1))
        hall.do(("lose", 1))
        self.same([hall.bag, self.heard(hall)], [(), True])
        hall.do(("wait", (9, 1)))
        self.same([hall.bag, self.heard(hall), hall.check()], [(), True, ("right",)])
        hall = self.struck()
        hall.do(("wait", (9, 1)))
        hall.do(("lose", 1))
        self.same([hall.bag, self.heard(hall)], [(), True])

    def test_numbers_that_are_not_in_the_bag(self):
        hall = self.struck()
        for word in ("hand", "lose"):
            for value in wrong_values() + [0, 2, 99, True, "1", (1,), [1], (1, 1)]:
                self.refused(NoLetter, value, hall, (word, value))
        hall.do(("lose", 1))
        for word in ("hand", "lose"):
            self.refused(NoLetter, 1, hall, (word, 1))

    def test_numbers_go_on_behind_lost_ones(self):
        hall = self.struck()
        hall.do(("lose", 1))
        hall.do(("strike", "bob", "z", TO_A))
        hall.do(("strike", "ann", "y", TO_B))
        self.same([row[:2] for row in hall.bag], [(2, "ann"), (3, "bob")])

    def test_out_of_sequence_with_a_gap(self):
        hall = self.struck()
        hall.do(("strike", "ann", "y", TO_B))
        hall.do(("hand", 2))
        self.same(self.heard(hall), False)
        hall.do(("hand", 1))
        self.same(len(hall.engines["bob"].story((99, 1))), 2)

    def test_only_one_player_hears_it(self):
        hall = hall_of(ROW)
        hall.do(("strike", "ann", "x", TO_B))
        hall.do(("hand", 2))
        self.same([len(hall.engines[name].story((99, 1))) for name in ("ann", "bob", "cid")], [1, 0, 1])


class Deeds(HallCase):
    def test_what_is_no_deed(self):
        hall = waited(COURT, 3, 1)
        wrong = wrong_values() + [
            ("wait",), ("wait", (4, 1), (4, 1)), ["wait", (4, 1)], ("Wait", (4, 1)), ("wait ", (4, 1)), "wait", ((4, 1), "wait"),
            ("strike", "ann", "x"), ("strike", "ann", "x", TO_B, ()), ("strike", ("ann", "x", TO_B)), ("hand",), ("hand", 1, 1),
            ("lose",), ("lose", 1, 1), ("see", "ann"), ("check",), (None, 1), (1, 1), (("wait",), (4, 1)), (["wait"], (4, 1)),
            (hall, 1), ("", 1), ("bag",),
        ]
        for deed in wrong:
            self.refused(BadDeed, deed, hall, deed)

    def test_deeds_with_any_values_as_their_parts_are_deeds(self):
        hall = waited(COURT, 3, 1)
        for value in wrong_values():
            self.refused(BadTime, value, hall, ("wait", value))
            self.refused(NoLetter, value, hall, ("hand", value))
            self.refused(NoLetter, value, hall, ("lose", value))
            self.refused(NoPlayer, value, hall, ("strike", value, value, value))

    def test_halls_share_nothing(self):
        court = court_of(COURT)
        one, other = Hall(court), Hall(court)
        one.do(("strike", "ann", "x", TO_B))
        one.do(("wait", (9, 1)))
        self.same([other.clock, other.bag, other.play.strikes, other.seen("bob")[0]], [(0, 1), (), (), ("x", ("at", "a"))])
        self.assertEqual(court, court_of(COURT))


class Looking(HallCase):
    def test_what_each_one_sees(self):
        hall = hall_of(ROW)
        hall.do(("strike", "ann", "x", (("b", 4), ("c", 4))))
        hall.do(("wait", (5, 1)))
        # Ann sees a, b and c 0, 0 and 2 late; cid sees a 6 late.
        self.same(hall.fields, (whole(0, 0, 2), whole(1, 0, 2), whole(6, 4, 2)))
        self.same(hall.seen("ann")[0], ("x", ("on", "b", "c", (1, 6))))
        self.same(hall.seen("bob")[0], ("x", ("on", "b", "c", (1, 6))))
        self.same(hall.seen("cid")[0], ("x", ("at", "a")))
        hall.do(("wait", (7, 1)))
        self.same(hall.seen("cid"), (("x", ("on", "a", "b", (1, 2))), ("y", ("at", "b"))))

    def test_who_is_no_player(self):
        hall = hall_of()
        for value in wrong_values() + ["a", "x", "cid", ("ann",)]:
            self.refuses(NoPlayer, value, hall.seen, value)

    def test_check_tells_the_first_one_for_whom_it_is_wrong(self):
        # No deed leads there, so the play of all strikes is put in by hand.
        hall = waited(ROW, 5, 1)
        hall.play = Play(hall.court, "play\nstrike 0 y c 4 b 4")
        self.same(hall.check(), ("wrong", "ann", "y"))
        hall.play = Play(hall.court, "play\nstrike 0 x b 4\nstrike 0 y c 4 b 4")
        self.same(hall.check(), ("wrong", "ann", "x"))
        hall.play = Play(hall.court, "play\nstrike 4 y c 4")
        self.same(hall.check(), ("wrong", "ann", "y"))
        hall.play = Play(hall.court, "play\nstrike 5 y c 4")
        self.same(hall.check(), ("right",))
        hall = waited(COURT, 4, 1)
        hall.play = Play(hall.court, "play\nstrike 4 z a 4")
        self.same(hall.check(), ("right",))
        hall.play = Play(hall.court, "play\nstrike 3 z a 4")
        self.same(hall.check(), ("wrong", "ann", "z"))

    def test_what_was_told_stays(self):
        hall = waited(COURT, 3, 1)
        hall.do(("strike", "ann", "x", TO_B))
        bag, play, seen = hall.bag, hall.play, hall.seen("ann")
        hall.do(("strike", "ann", "y", TO_B))
        hall.do(("lose", 1))
        self.same([len(bag), len(play.strikes), seen[0]], [1, 1, ("x", ("at", "a"))])
        self.same([len(hall.bag), len(hall.play.strikes)], [1, 2])

    def test_round_six_players_all_of_whose_letters_are_lost(self):
        hall = hall_of(WHEEL)
        self.same(hall.lags, whole(0, 0, 0, 0, 0, 0))
        for at in range(13):
            here, there = "abcdef"[at % 6], "abcdef"[(at + 1) % 6]
            letter = hall.do(("strike", f"p{here}", "x", ((there, 4),)))
            self.same(letter[2:], (at // 6, (4 * at, "x", ((there, 4),))))
            self.same([row[0] for row in hall.bag], [5 * at + number for number in range(1, 6)])
            for number in range(1, 6):
                hall.do(("lose", 5 * at + number))
            for time in ((8 * at + 3, 2), (4 * at + 4, 1)):
                hall.do(("wait", time))
                self.same(hall.check(), ("right",))
            self.same(hall.seen(f"p{there}")[0], ("x", ("at", there)))
        self.same([hall.bag, len(hall.play.strikes)], [(), 13])
