"""Section 12: engines, what they take in, and what they show."""

import itertools

from nevertakenback.engines import Engine
from nevertakenback.errors import (
    BadCourse, BadFields, BadLags, BadLetter, BadTime, Clash, NoBall, NoPlayer, NotSeen, WrongFields, WrongLags,
)
from nevertakenback.fields import all_fields, greatest_field
from nevertakenback.plays import Play, strikers
from tests.samples import Case, court_of, text_of, wrong_rows, wrong_values
from tests.test_fields import whole
from tests.test_rings import CALM

# The court of the example in section 12, with more balls.
DUO = [
    "court", "stretch 1/2 2", "place a", "place m", "place b", "way a m 4", "way m b 4", "player ann a", "player bob b",
    "delay ann bob 3", "delay bob ann 5", "ball x a", "ball y a", "ball z b",
]
LAGS = whole(0, 1)
OVER, BACK = (("m", 4), ("b", 4)), (("m", 4), ("a", 4))

# Ann has two places, with a way from one to the other, and a place that is in no room between her and bob.
ROOMY = [
    "court", "stretch 1/2 2", "place a", "place c", "place m", "place b", "way a c 2", "way c m 4", "way m b 4", "way a b 9",
    "player ann a c", "player bob b", "delay ann bob 2", "delay bob ann 2", "ball x a", "ball y c",
]


def engine_of(player, lines=DUO, lags=LAGS):
    court = court_of(lines)
    return Engine(court, lags, all_fields(court, lags), player)


def letter_of(player, number, tick, ball, course):
    return ("strike", player, number, (tick, ball, course))


class EngineCase(Case):
    def state(self, engine):
        times = [(0, 1), (1, 2), (7, 1), (25, 2), (60, 1)]
        return [engine.letters, engine.play, [engine.shows(time) for time in times], engine.story((99, 1))]

    def refused(self, error, value, engine, call, *args):
        """The call is refused, and changes nothing of the engine."""
        before = self.state(engine)
        self.refuses(error, value, call, *args)
        self.same(self.state(engine), before)


class Making(Case):
    def test_at_first(self):
        engine = engine_of("bob")
        self.same([engine.player, engine.letters, engine.play.strikes, engine.story((999, 1))], ["bob", (), (), ()])
        self.assertEqual(engine.court, court_of(DUO))
        self.assertEqual(engine.play, Play(court_of(DUO), "play"))
        still = (("x", ("at", "a")), ("y", ("at", "a")), ("z", ("at", "b")))
        for time in ((0, 1), (1, 3), (99999, 1), (10 ** 11, 7)):
            self.same(engine.shows(time), still)

    def test_wrong_arguments(self):
        court = court_of(DUO)
        fields = all_fields(court, LAGS)
        for value in wrong_rows(LAGS):
            self.refuses(BadLags, value, Engine, court, value, fields, "ann")
        for lags in (whole(0, 0), whole(0, 2), whole(5, 0), ((0, 1), (1, 2)), ((1, 3), (6, 5))):
            self.refuses(WrongLags, None, Engine, court, lags, fields, "ann")
        for value in wrong_values() + [fields[:1], fields + fields[:1], list(fields), (fields[0], fields[1][:2]), fields[0]]:
            self.refuses(BadFields, value, Engine, court, LAGS, value, "ann")
        for row in wrong_rows(fields[1]):
            self.refuses(BadFields, (fields[0], row), Engine, court, LAGS, (fields[0], row), "ann")
        for value in wrong_values() + ["a", "x", "cid", ("ann",)]:
            self.refuses(NoPlayer, value, Engine, court, LAGS, fields, value)

    def test_fields_that_are_not_right_whosever_engine_it_is(self):
        court = court_of(DUO)
        fine = all_fields(court, LAGS)
        wrong = [
            (whole(0, 2, 3), fine[1]), (whole(1, 2, 4), fine[1]), (whole(0, 3, 4), fine[1]), (fine[0], whole(4, 3, 1)),
            (fine[0], whole(5, 3, 0)), (fine[0], whole(5, 2, 1)), (fine[1], fine[0]), (fine[0], whole(6, 3, 1)),
        ]
        for fields in wrong:
            for player in ("ann", "bob"):
                self.refuses(WrongFields, None, Engine, court, LAGS, fields, player)
        for fields in (fine, tuple(greatest_field(court, LAGS, name) for name in ("ann", "bob"))):
            for player in ("ann", "bob"):
                self.assertEqual(Engine(court, LAGS, fields, player).player, player)

    def test_the_error_that_stands_first(self):
        court = court_of(DUO)
        fields = all_fields(court, LAGS)
        due = (
            (1, BadLags, [LAGS]), (1, WrongLags, whole(0, 0), None), (2, BadFields, fields[:1]),
            (2, WrongFields, (fields[0], fields[0]), None), (3, NoPlayer, "cid"),
        )
        self.in_sequence(Engine, (court, LAGS, fields, "ann"), *due)

    def test_engines_share_nothing(self):
        one, other = engine_of("ann"), engine_of("ann")
        one.strike((2, 1), "x", OVER)
        self.same([len(one.play.strikes), other.play.strikes, other.letters, other.story((99, 1))], [1, (), (), ()])


class Strikes(EngineCase):
    def test_the_letter_and_what_is_known_by_it(self):
        engine = engine_of("ann")
        first = engine.strike((2, 1), "x", OVER)
        self.same(first, letter_of("ann", 0, 2, "x", OVER))
        second = engine.strike((5, 1), "y", BACK)
        self.same(second, letter_of("ann", 1, 5, "y", BACK))
        self.same(engine.letters, (first, second))
        self.same(engine.play.strikes, (first[3], second[3]))
        self.same(engine.story((99, 1)), (first[3], second[3]))
        self.same(engine.shows((7, 1))[:2], (("x", ("on", "a", "m", (5, 6))), ("y", ("on", "a", "m", (1, 3)))))

    def test_at_the_tick_and_the_lag(self):
        engine = engine_of("bob")
        for time in ((0, 1), (1, 2), (3, 2), (5, 4), (999, 2)):
            self.refused(NotSeen, "z", engine, engine.strike, time, "z", BACK)
        self.same(engine.strike((1, 1), "z", (("m", 4), ("a", 4)))[3][0], 0)
        court = court_of(DUO)
        halves = ((1, 2), (3, 2))
        engine = Engine(court, halves, all_fields(court, halves), "ann")
        for time in ((0, 1), (1, 4), (1, 1), (7, 1), (10, 3)):
            self.refused(NotSeen, "x", engine, engine.strike, time, "x", OVER)
        self.same([engine.strike((1, 2), "x", OVER)[3][0], engine.strike((15, 2), "y", OVER)[3][0]], [0, 7])

    def test_the_first_and_the_last_tick(self):
        ann, bob = engine_of("ann"), engine_of("bob")
        for time in ((100000, 1), (100001, 1), (199999, 2), (10 ** 11, 1)):
            self.refused(NotSeen, "x", ann, ann.strike, time, "x", OVER)
        self.same(ann.strike((0, 1), "x", OVER)[3][0], 0)
        self.same(ann.strike((99999, 1), "y", OVER)[3][0], 99999)
        self.refused(NotSeen, "z", bob, bob.strike, (100001, 1), "z", BACK)
        self.same(bob.strike((100000, 1), "z", BACK)[3][0], 99999)

    def test_a_second_strike_in_one_tick_only_of_a_greater_ball(self):
        engine = engine_of("ann")
        engine.strike((2, 1), "x", OVER)
        self.refused(NotSeen, "x", engine, engine.strike, (2, 1), "x", OVER)
        self.same(engine.strike((2, 1), "y", OVER), letter_of("ann", 1, 2, "y", OVER))
        self.refused(NotSeen, "y", engine, engine.strike, (2, 1), "y", OVER)
        engine = engine_of("ann")
        engine.strike((2, 1), "y", OVER)
        self.refused(NotSeen, "x", engine, engine.strike, (2, 1), "x", OVER)
        self.same(engine.strike((3, 1), "x", OVER), letter_of("ann", 1, 3, "x", OVER))

    def test_not_behind_the_last_one_in_an_earlier_tick(self):
        engine = engine_of("ann")
        engine.strike((7, 1), "x", OVER)
        for time in ((0, 1), (6, 1)):
            self.refused(NotSeen, "y", engine, engine.strike, time, "y", OVER)
        self.same(engine.strike((7, 1), "y", OVER)[3][0], 7)

    def test_a_ball_that_comes_in_just_this_tick(self):
        engine = engine_of("ann")
        engine.strike((2, 1), "x", BACK)
        for time in ((3, 1), (6, 1), (9, 1)):
            self.refused(NotSeen, "x", engine, engine.strike, time, "x", BACK)
        self.same(engine.strike((10, 1), "x", (("m", 5), ("b", 4)))[2], 1)
        self.same(engine.shows((11, 1))[0], ("x", ("on", "a", "m", (1, 7))))

    def test_a_ball_that_only_passes_the_own_room(self):
        engine = engine_of("ann")
        engine.strike((2, 1), "x", BACK + OVER)
        for time in ((9, 1), (11, 1)):
            self.refused(NotSeen, "x", engine, engine.strike, time, "x", BACK)
        engine.strike((10, 1), "x", BACK)
        self.same(engine.play.strikes[1], (10, "x", BACK))
        self.same(engine.shows((30, 1))[0], ("x", ("at", "a")))

    def test_a_ball_that_another_player_sent_by_the_news_of_it(self):
        ann, bob = engine_of("ann"), engine_of("bob")
        letter = bob.strike((1, 1), "z", (("m", 4), ("a", 4)))
        self.refused(NotSeen, "z", ann, ann.strike, (8, 1), "z", OVER)
        ann.hear(letter)
        for time in ((6, 1), (7, 1), (15, 2)):
            self.refused(NotSeen, "z", ann, ann.strike, time, "z", OVER)
        self.same(ann.strike((8, 1), "z", OVER), letter_of("ann", 0, 8, "z", OVER))

    def test_in_each_place_of_the_room_and_in_no_other(self):
        engine = engine_of("ann", ROOMY, whole(0, 0))
        engine.strike((0, 1), "x", (("c", 2), ("m", 4), ("c", 4)))
        self.same(engine.strike((1, 1), "y", (("a", 2),))[2], 1)
        # In tick 2 x is at c, in tick 6 at m, which is in no room, in tick 10 at c again.
        self.refused(NotSeen, "x", engine, engine.strike, (6, 1), "x", (("c", 4),))
        self.same(engine.strike((10, 1), "x", (("a", 2), ("b", 9)))[2], 2)
        self.refused(NotSeen, "x", engine, engine.strike, (21, 1), "x", (("a", 9),))
        self.same(engine.strike((21, 1), "y", (("b", 9),))[2], 3)

    def test_whether_it_was_struck_or_lies_where_it_lay(self):
        bob = engine_of("bob")
        for ball in ("x", "y"):
            self.refused(NotSeen, ball, bob, bob.strike, (9, 1), ball, (("m", 4), ("a", 4)))

    def test_courses_from_this_place(self):
        engine = engine_of("ann", ROOMY, whole(0, 0))
        wrong = wrong_values() + [
            (("c", 1),), (("m", 4),), (("b", 8),), (("c", 2), ("m", 4)), (("a", 2),), (("c", 2.0),), (("c", True),), [("c", 2)],
            (["c", 2],), (("c", 1000),), (("c", 2), ("a", 2)) * 13, (("d", 9),), ("c", 2), (("c", 2, 2),), (("c", "2"),),
        ]
        for course in wrong:
            self.refused(BadCourse, course, engine, engine.strike, (3, 1), "x", course)
        self.same(engine.strike((3, 1), "x", (("c", 2), ("a", 999)) * 12)[3][2], (("c", 2), ("a", 999)) * 12)
        # From c, where y lies, other courses are right than from a.
        self.refused(BadCourse, (("c", 2),), engine, engine.strike, (3, 1), "y", (("c", 2),))
        self.same(engine.strike((3, 1), "y", (("m", 4), ("b", 4)))[2], 1)

    def test_wrong_arguments(self):
        engine = engine_of("ann")
        for value in wrong_values() + [(2, 4), (-1, 2), (True, 1), (1, True), [1, 2], (1, 0), (1, 2, 3), 7]:
            self.refused(BadTime, value, engine, engine.strike, value, "x", OVER)
        for value in wrong_values() + ["a", "ann", "v", ("x",)]:
            self.refused(NoBall, value, engine, engine.strike, (2, 1), value, OVER)

    def test_the_error_that_stands_first(self):
        for time, ball, course, error, value in (
            (2, "v", (), BadTime, 2), (2, "z", (), BadTime, 2), (2, "x", (), BadTime, 2), ((1, 2), "v", (), NoBall, "v"),
            ((2, 1), "v", OVER, NoBall, "v"), ((1, 2), "x", (), NotSeen, "x"), ((2, 1), "z", OVER, NotSeen, "z"),
            ((2, 1), "z", None, NotSeen, "z"), ((2, 1), "x", None, BadCourse, None),
        ):
            engine = engine_of("ann")
            self.refused(error, value, engine, engine.strike, time, ball, course)


class Hearing(EngineCase):
    def test_what_is_known_and_shown_by_it(self):
        engine = engine_of("bob")
        self.assertIs(engine.hear(letter_of("ann", 0, 2, "x", OVER)), None)
        self.same([engine.letters, engine.play.text], [(), "play\nstrike 2 x m 4 b 4"])
        self.same(engine.shows((8, 1))[0], ("x", ("on", "a", "m", (1, 2))))

    def test_out_of_sequence_twice_and_with_gaps(self):
        letters = [
            letter_of("ann", 0, 2, "x", BACK), letter_of("ann", 1, 3, "y", OVER), letter_of("ann", 2, 10, "x", OVER),
            letter_of("ann", 3, 20, "x", OVER),
        ]
        engine = engine_of("bob")
        for at, count in ((2, 0), (2, 0), (1, 0), (0, 3), (2, 3), (3, 4), (0, 4)):
            self.assertIs(engine.hear(letters[at]), None)
            self.same(engine.play.strikes, tuple(letter[3] for letter in letters[:count]))
            self.same(engine.story((99, 1)), tuple(letter[3] for letter in letters[:count]))

    def test_in_whatever_sequence_the_same_play(self):
        letters = [
            letter_of("ann", 0, 2, "x", OVER), letter_of("ann", 1, 3, "y", OVER),
            letter_of("bob", 0, 10, "x", (("m", 4), ("a", 4))), letter_of("bob", 1, 11, "y", (("m", 4), ("a", 4))),
        ]
        court = court_of(CALM[:-1] + ["ball x a", "ball y a"])
        for row in itertools.permutations(letters):
            engine = Engine(court, whole(1, 0, 2), all_fields(court, whole(1, 0, 2)), "cid")
            for letter in row:
                engine.hear(letter)
            self.same(engine.play.strikes, tuple(letter[3] for letter in letters))

    def test_known_strikes_that_cannot_stand(self):
        engine = engine_of("bob")
        engine.hear(letter_of("ann", 0, 2, "x", OVER))
        engine.hear(letter_of("ann", 1, 3, "x", BACK))
        engine.hear(letter_of("ann", 2, 4, "y", BACK))
        self.same([engine.play.text, len(engine.story((99, 1)))], ["play\nstrike 2 x m 4 b 4\nstrike 4 y m 4 a 4", 3])
        self.same(engine.shows((99, 1)), (("x", ("at", "b")), ("y", ("at", "a")), ("z", ("at", "b"))))

    def test_news_of_a_strike_may_let_a_later_one_stand(self):
        court = court_of(CALM + ["ball z b"])
        engine = Engine(court, whole(1, 0, 2), all_fields(court, whole(1, 0, 2)), "ann")
        engine.hear(letter_of("cid", 0, 20, "z", (("m", 2), ("a", 4))))
        self.same([engine.play.strikes, len(engine.story((99, 1)))], [(), 1])
        engine.hear(letter_of("bob", 0, 3, "z", (("m", 4), ("c", 2))))
        self.same([strike[0] for strike in engine.play.strikes], [3, 20])
        self.same(engine.shows((99, 1))[1], ("z", ("at", "a")))

    def test_news_of_a_strike_may_bar_a_later_one(self):
        court = court_of(CALM + ["ball y c"])
        engine = Engine(court, whole(1, 0, 2), all_fields(court, whole(1, 0, 2)), "ann")
        engine.strike((1, 1), "x", (("m", 4), ("b", 6)))
        engine.hear(letter_of("bob", 0, 10, "x", (("m", 4), ("a", 4))))
        self.same([strike[0] for strike in engine.play.strikes], [0, 10])
        # The balls meet at m: it is y that comes to b in tick 10, and x is on its way to c then.
        engine.hear(letter_of("cid", 0, 2, "y", (("m", 2), ("c", 9))))
        self.same([strike[0] for strike in engine.play.strikes], [0, 2])
        self.same([strike[0] for strike in engine.story((99, 1))], [0, 2, 10])
        self.same(engine.shows((99, 1)), (("x", ("at", "c")), ("y", ("at", "b"))))

    def test_own_letters(self):
        engine = engine_of("ann")
        own = engine.strike((2, 1), "x", OVER)
        before = self.state(engine)
        self.assertIs(engine.hear(own), None)
        self.assertIs(engine.hear(letter_of("ann", 0, 2, "x", OVER)), None)
        self.same(self.state(engine), before)
        for letter in (
            letter_of("ann", 1, 3, "y", OVER), letter_of("ann", 0, 2, "x", BACK), letter_of("ann", 0, 3, "x", OVER),
            letter_of("ann", 0, 2, "y", OVER), letter_of("ann", 1, 2, "x", OVER), letter_of("ann", 7, 50, "y", OVER),
        ):
            self.refused(Clash, letter, engine, engine.hear, letter)
        fresh = engine_of("ann")
        for letter in (own, letter_of("ann", 3, 0, "y", OVER)):
            self.refused(Clash, letter, fresh, fresh.hear, letter)
        self.same(fresh.strike((0, 1), "y", OVER)[2], 0)

    def test_letters_that_clash(self):
        engine = engine_of("bob")
        engine.hear(letter_of("ann", 1, 10, "x", OVER))
        for letter in (
            letter_of("ann", 1, 10, "y", OVER), letter_of("ann", 1, 10, "x", BACK), letter_of("ann", 1, 11, "x", OVER),
            letter_of("ann", 0, 10, "x", OVER), letter_of("ann", 0, 10, "y", OVER), letter_of("ann", 0, 12, "x", OVER),
            letter_of("ann", 2, 10, "x", OVER), letter_of("ann", 2, 9, "y", OVER), letter_of("ann", 9, 3, "x", OVER),
        ):
            self.refused(Clash, letter, engine, engine.hear, letter)
        engine.hear(letter_of("ann", 0, 9, "y", OVER))
        self.same(engine.story((99, 1)), ((9, "y", OVER), (10, "x", OVER)))

    def test_what_is_no_letter(self):
        engine = engine_of("bob")
        right = letter_of("ann", 0, 2, "x", OVER)
        wrong = wrong_values() + [
            right[:3], list(right), right + (0,), ("Strike",) + right[1:], ("strike", "cid") + right[2:],
            ("strike", "ann", True, right[3]), ("strike", "ann", -1, right[3]), ("strike", "ann", 0, list(right[3])),
            letter_of("ann", 0, 100000, "x", OVER), letter_of("ann", 0, 2, "v", OVER), letter_of("ann", 0, 2, "x", ()),
            letter_of("bob", 0, 2, "x", OVER[:1]), letter_of("ann", 0, 2, "x", (("m", 3), ("b", 4))), right[3],
        ]
        for letter in wrong:
            self.refused(BadLetter, letter, engine, engine.hear, letter)
        # What is no letter is told ahead of what clashes, also of the own ones.
        engine.hear(right)
        for letter in (letter_of("ann", 0, 2, "x", (("m", 4),)), letter_of("bob", 0, 2, "x", (("m", 4),))):
            self.refused(BadLetter, letter, engine, engine.hear, letter)

    def test_more_strikes_than_a_play_may_have_raise_nothing(self):
        engine = engine_of("bob")
        for number in range(45):
            self.assertIs(engine.hear(letter_of("ann", number, 8 * number, "x", BACK)), None)
        self.same([len(engine.story((999, 1))), len(engine.shows((999, 1)))], [45, 3])


class Shows(EngineCase):
    def test_each_place_by_its_lateness(self):
        ann, bob = engine_of("ann"), engine_of("bob")
        bob.hear(ann.strike((2, 1), "x", OVER))
        rows = (((2, 1), ("at", "a")), ((5, 1), ("on", "a", "m", (1, 2))), ((8, 1), ("at", "m")), ((14, 1), ("at", "b")))
        for time, spot in rows:
            self.same(ann.shows(time)[0], ("x", spot))
        rows = (((7, 1), ("at", "a")), ((15, 2), ("on", "a", "m", (1, 4))), ((9, 1), ("at", "m")), ((11, 1), ("at", "b")))
        for time, spot in rows:
            self.same(bob.shows(time)[0], ("x", spot))

    def test_balls_in_the_courts_sequence(self):
        lines = DUO[:-3] + ["ball z b", "ball x a", "ball y a"]
        self.same([row[0] for row in engine_of("ann", lines).shows((3, 1))], ["z", "x", "y"])

    def test_by_whatever_right_field(self):
        court = court_of(DUO)
        fields = tuple(greatest_field(court, whole(0, 1), name) for name in ("ann", "bob"))
        self.same(fields, (whole(0, 2, 4), whole(5, 3, 1)))
        slack = court_of(DUO[:-5] + ["delay ann bob 1", "delay bob ann 2"] + DUO[-3:])
        least = Engine(slack, whole(0, 1), all_fields(slack, whole(0, 1)), "ann")
        most = Engine(slack, whole(0, 1), tuple(greatest_field(slack, whole(0, 1), name) for name in ("ann", "bob")), "ann")
        for engine in (least, most):
            engine.strike((0, 1), "x", OVER)
        self.same(least.shows((4, 1))[0], ("x", ("at", "m")))
        self.same(most.shows((4, 1))[0], ("x", ("on", "a", "m", (2, 3))))

    def test_at_times_that_are_still_to_come(self):
        engine = engine_of("ann")
        engine.strike((2, 1), "x", OVER)
        self.same(engine.shows((99999, 1))[0], ("x", ("at", "b")))
        engine.hear(letter_of("bob", 0, 10, "x", (("m", 4), ("a", 4))))
        self.same(engine.shows((99999, 1))[0], ("x", ("at", "a")))

    def test_a_letter_that_comes_too_late_alters_what_was_shown(self):
        bob = engine_of("bob")
        before = bob.shows((11, 1))
        bob.hear(letter_of("ann", 0, 2, "x", OVER))
        self.same([before[0], bob.shows((11, 1))[0]], [("x", ("at", "a")), ("x", ("at", "b"))])

    def test_a_letter_that_comes_by_its_time_alters_nothing(self):
        for time in ((2, 1), (5, 1), (7, 1)):
            bob, known = engine_of("bob"), engine_of("bob")
            known.hear(letter_of("ann", 0, 2, "x", OVER))
            asked = [(top, 4) if top % 2 else (top // 2, 2) if top % 4 else (top // 4, 1) for top in range(0, 29)]
            asked = [row for row in asked if row[0] * time[1] <= time[0] * row[1]]
            self.same([bob.shows(row) for row in asked], [known.shows(row) for row in asked])

    def test_wrong_times(self):
        engine = engine_of("ann")
        engine.strike((2, 1), "x", OVER)
        for value in wrong_values() + [(2, 4), (-1, 1), (True, 1), (1, True), [1, 2], (1, 0), (1, 2, 3), 7, "7"]:
            self.refused(BadTime, value, engine, engine.shows, value)
            self.refused(BadTime, value, engine, engine.story, value)


class Stories(EngineCase):
    def test_what_is_due_by_a_time(self):
        bob = engine_of("bob")
        bob.hear(letter_of("ann", 0, 2, "x", OVER))
        bob.hear(letter_of("ann", 1, 2, "y", OVER))
        bob.hear(letter_of("ann", 2, 8, "x", BACK))
        # Each is due its delay of 5 later; ann's lag is 0.
        for time, count in (((0, 1), 0), ((2, 1), 0), ((20, 3), 0), ((7, 1), 2), ((8, 1), 2), ((25, 2), 2), ((13, 1), 3), ((99, 1), 3)):
            self.same(bob.story(time), ((2, "x", OVER), (2, "y", OVER), (8, "x", BACK))[:count])

    def test_own_ones_by_tick_and_lag(self):
        bob = engine_of("bob")
        bob.strike((4, 1), "z", (("m", 4), ("a", 4)))
        strike = (3, "z", (("m", 4), ("a", 4)))
        self.same([bob.story(time) for time in ((3, 1), (7, 2), (4, 1), (5, 1))], [(), (), (strike,), (strike,)])

    def test_those_of_others_by_their_lag(self):
        ann = engine_of("ann")
        strike = (3, "z", (("m", 4), ("a", 4)))
        ann.hear(("strike", "bob", 0, strike))
        # Tick 3, the lag 1 of bob, the delay 3 of ann.
        self.same([ann.story(time) for time in ((6, 1), (13, 2), (7, 1))], [(), (), (strike,)])

    def test_ascending_whoever_did_it_and_whether_it_stands(self):
        ann = engine_of("ann")
        ann.strike((9, 1), "x", OVER)
        ann.hear(letter_of("bob", 0, 4, "z", (("m", 5), ("a", 4))))
        ann.hear(letter_of("bob", 1, 6, "z", (("m", 4), ("a", 4))))
        self.same([strike[:2] for strike in ann.story((99, 1))], [(4, "z"), (6, "z"), (9, "x")])
        self.same([strike[:2] for strike in ann.play.strikes], [(4, "z"), (9, "x")])
        self.same([strike[:2] for strike in ann.story((9, 1))], [(4, "z"), (9, "x")])

    def test_what_is_not_known_without_a_gap_is_not_in_it(self):
        bob = engine_of("bob")
        bob.hear(letter_of("ann", 1, 2, "x", OVER))
        self.same(bob.story((99, 1)), ())


class Examples(Case):
    def test_strikers_of_a_rally(self):
        ann, bob = engine_of("ann"), engine_of("bob")
        bob.hear(ann.strike((2, 1), "x", OVER))
        ann.hear(bob.strike((11, 1), "x", (("m", 5), ("a", 4))))
        bob.hear(ann.strike((19, 1), "x", OVER))
        for engine in (ann, bob):
            self.same(strikers(engine.play), (("ann", "a"), ("bob", "b"), ("ann", "a")))
            self.assertEqual(engine.play, Play(court_of(DUO), text_of([
                "play", "strike 2 x m 4 b 4", "strike 10 x m 5 a 4", "strike 19 x m 4 b 4",
            ])))
