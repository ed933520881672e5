"""Section 4: courts and what is told of them."""

from nevertakenback.courts import (
    Court, apart, delay, distance, give, owner, shortest, with_delay, with_length, with_stretch,
)
from nevertakenback.errors import BadLength, BadStretch, BadTicks, NoPlace, NoPlayer, NoWay, Same
from nevertakenback.plays import Play
from tests.samples import LINE, PLAY, TRIANGLE, Case, changed, court_of, great_court_lines, text_of, wrong_values

# Two rows of places from a to d are shortest; the least one begins with b.
SQUARE = [
    "court", "stretch 1 1", "place a", "place d", "place c", "place b", "way a c 1", "way c d 2", "way a b 2",
    "way b d 1", "way b c 1", "player p d b", "player q c a", "ball x a",
]


class Properties(Case):
    def test_as_the_lines_tell_them(self):
        court = court_of(SQUARE)
        self.same(court.text, text_of(SQUARE))
        self.same(court.stretch, ((1, 1), (1, 1)))
        self.same(court.places, ("a", "d", "c", "b"))
        ways = (("a", "c", 1), ("c", "d", 2), ("a", "b", 2), ("b", "d", 1), ("b", "c", 1))
        self.same(court.ways, ways)
        self.same(court.players, (("p", ("d", "b")), ("q", ("c", "a"))))
        self.same(court.delays, (("p", "q", 0), ("q", "p", 0)))
        self.same(court.balls, (("x", "a"),))

    def test_delays_stand_in_the_sequence_of_the_players(self):
        lines = changed(LINE, "player p a", "player z a", "player p b")[:-4]
        court = court_of(lines + ["delay q z 4", "delay p z 9", "delay z p 2", "ball x a"])
        told = (("z", "p", 2), ("z", "q", 0), ("p", "z", 9), ("p", "q", 0), ("q", "z", 4), ("q", "p", 0))
        self.same(court.delays, told)

    def test_the_greatest_court(self):
        court = court_of(great_court_lines())
        counts = [len(rows) for rows in (court.places, court.ways, court.players, court.delays, court.balls)]
        self.assertEqual(counts, [12, 40, 6, 30, 6])
        self.same(court.stretch, ((1, 99), (99, 1)))
        self.assertEqual({length for _, _, length in court.ways}, {99})
        self.assertEqual({ticks for _, _, ticks in court.delays}, {99})

    def test_the_least_court(self):
        lines = ["court", "stretch 1 1", "place a", "place b", "way b a 1", "player p a", "player q b", "ball a b"]
        court = court_of(lines)
        self.same(court.ways, (("b", "a", 1),))
        self.same(court.delays, (("p", "q", 0), ("q", "p", 0)))
        self.same(court.balls, (("a", "b"),))

    def test_a_room_of_twelve_places_but_one(self):
        lines = [line for line in great_court_lines() if line.split(" ")[0] not in ("player", "delay", "ball")]
        court = court_of(lines + ["player p l k j i h g f e d c b", "player q a", "ball x l"])
        self.same(court.players[0], ("p", ("l", "k", "j", "i", "h", "g", "f", "e", "d", "c", "b")))

    def test_names_may_be_alike_among_different_kinds_and_be_words_of_lines(self):
        lines = [
            "court", "stretch 1 1", "place place", "place court", "way place court 1", "player place place",
            "player court court", "delay court place 1", "ball court court",
        ]
        self.same(court_of(lines).players, (("place", ("place",)), ("court", ("court",))))

    def test_equal_are_courts_with_equal_texts_alone(self):
        court = court_of(LINE)
        self.assertTrue(court == court_of(LINE))
        self.assertFalse(court != court_of(LINE))
        self.assertTrue(court != court_of(TRIANGLE))
        self.assertFalse(court == court_of(changed(LINE, "delay p q 3", "delay p q 2")))
        # The same delays, told by another text.
        self.assertFalse(court_of(TRIANGLE) == with_delay(court_of(TRIANGLE), "ann", "bob", 0))
        for value in wrong_values() + [court.text, Play(court, text_of(PLAY))]:
            if not isinstance(value, Court):
                self.assertFalse(court == value)
                self.assertTrue(court != value)


class Give(Case):
    def test_the_lesser_of_both(self):
        rows = [
            ("1/2 7/4", (1, 2)), ("1/2 5/4", (1, 4)), ("1/2 3/2", (1, 2)), ("1 99", (0, 1)), ("1/99 1", (0, 1)),
            ("1/99 99", (98, 99)), ("2/3 4/3", (1, 3)), ("3/4 2", (1, 4)), ("1/3 3/2", (1, 2)), ("1/3 8/5", (3, 5)),
        ]
        for words, told in rows:
            self.same(give(court_of(changed(LINE, "stretch 1/2 2", f"stretch {words}"))), told)


class Distances(Case):
    def test_distance(self):
        court = court_of(TRIANGLE)
        rows = [("a", "b", 4), ("a", "c", 6), ("b", "c", 2), ("a", "a", 0), ("c", "c", 0)]
        for place, other, told in rows:
            self.same(distance(court, place, other), told)
            self.same(distance(court, other, place), told)

    def test_a_way_that_is_as_short_as_the_way_round(self):
        court = with_length(court_of(TRIANGLE), "a", "c", 6)
        self.same(distance(court, "a", "c"), 6)
        self.same(shortest(court, "a", "c"), ("a", "b", "c"))
        self.same(shortest(court, "c", "a"), ("c", "a"))

    def test_shortest_is_the_least_of_all_shortest_rows(self):
        court = court_of(SQUARE)
        self.same(shortest(court, "a", "d"), ("a", "b", "d"))
        self.same(shortest(court, "d", "a"), ("d", "b", "a"))
        self.same(shortest(court, "a", "b"), ("a", "b"))
        self.same(shortest(court, "b", "a"), ("b", "a"))
        self.same(shortest(with_length(court, "b", "d", 2), "d", "a"), ("d", "c", "a"))

    def test_shortest_of_one_place(self):
        self.same(shortest(court_of(LINE), "b", "b"), ("b",))

    def test_owner(self):
        court = court_of(SQUARE)
        self.assertEqual([owner(court, place) for place in "abcd"], ["q", "p", "q", "p"])
        self.assertIsNone(owner(court_of(LINE), "b"))

    def test_apart(self):
        self.same(apart(court_of(LINE), "p", "q"), 5)
        self.same(apart(court_of(LINE), "q", "p"), 5)
        self.same(apart(court_of(SQUARE), "q", "p"), 1)
        self.same(apart(court_of(LINE), "p", "p"), 0)

    def test_delay(self):
        court = court_of(LINE)
        self.same(delay(court, "p", "q"), 3)
        self.same(delay(court, "q", "p"), 1)
        self.same(delay(court, "q", "q"), 0)
        self.same(delay(court_of(TRIANGLE), "ann", "bob"), 0)

    def test_wrong_places(self):
        court = court_of(LINE)
        for value in wrong_values() + ["p", "x"]:
            self.refuses(NoPlace, value, owner, court, value)
            for call in (distance, shortest):
                self.refuses(NoPlace, value, call, court, value, "a")
                self.refuses(NoPlace, value, call, court, "a", value)
                self.refuses(NoPlace, value, call, court, value, 7)

    def test_wrong_players(self):
        court = court_of(LINE)
        for value in wrong_values() + ["a", "x"]:
            for call in (apart, delay):
                self.refuses(NoPlayer, value, call, court, value, "p")
                self.refuses(NoPlayer, value, call, court, "p", value)
                self.refuses(NoPlayer, value, call, court, value, 7)


class WithDelay(Case):
    def test_a_line_that_stands_is_changed(self):
        court = with_delay(court_of(LINE), "p", "q", 99)
        self.same(court.text, text_of(changed(LINE, "delay p q 3", "delay p q 99")))
        self.assertIsInstance(court, Court)
        self.same(with_delay(court, "p", "q", 0).text, text_of(changed(LINE, "delay p q 3", "delay p q 0")))

    def test_a_line_that_lacks_is_put_behind_all_delay_lines(self):
        court = with_delay(court_of(TRIANGLE), "ann", "bob", 2)
        lines = changed(TRIANGLE, "delay bob ann 3", "delay bob ann 3", "delay ann bob 2")
        self.same(court.text, text_of(lines))

    def test_a_line_is_put_also_for_0_and_behind_the_players(self):
        lines = changed(TRIANGLE, "delay bob ann 3")
        court = with_delay(court_of(lines), "ann", "bob", 0)
        self.same(court.text, text_of(changed(TRIANGLE, "delay bob ann 3", "delay ann bob 0")))

    def test_ahead_of_all_balls(self):
        lines = changed(LINE, "delay q p 1")
        court = with_delay(court_of(lines), "q", "p", 5)
        self.same(court.text, text_of(changed(LINE, "delay q p 1", "delay q p 5")))

    def test_names_that_begin_alike(self):
        lines = changed(changed(LINE, "player q c", "player pp c"), "delay p q 3", "delay pp p 3")
        court = with_delay(court_of(changed(lines, "delay q p 1")), "p", "pp", 8)
        self.same(court.delays, (("p", "pp", 8), ("pp", "p", 3)))

    def test_the_court_stays(self):
        court = court_of(LINE)
        with_delay(court, "p", "q", 7)
        self.assertEqual(court, court_of(LINE))
        self.same(delay(court, "p", "q"), 3)

    def test_wrong_arguments(self):
        court = court_of(LINE)
        for value in wrong_values() + [100]:
            self.refuses(BadTicks, value, with_delay, court, "p", "q", value)
            self.refuses(NoPlayer, value, with_delay, court, value, "q", value)
            self.refuses(NoPlayer, value, with_delay, court, "p", value, value)
            self.refuses(Same, "q", with_delay, court, "q", "q", value)
        self.refuses(NoPlayer, "a", with_delay, court, "a", "a", 3)
        self.refuses(NoPlayer, "a", with_delay, court, "a", "b", 3)


class WithLength(Case):
    def test_either_way_round(self):
        court = court_of(LINE)
        for place, other in (("b", "c"), ("c", "b")):
            longer = with_length(court, place, other, 99)
            self.same(longer.text, text_of(changed(LINE, "way b c 3", "way b c 99")))
            self.same(distance(longer, "a", "c"), 101)
        self.same(with_length(court, "a", "b", 1).ways, (("a", "b", 1), ("b", "c", 3)))
        self.same(distance(court, "a", "c"), 5)

    def test_wrong_arguments(self):
        court = court_of(LINE)
        for value in wrong_values() + [0, 100]:
            self.refuses(BadLength, value, with_length, court, "a", "b", value)
            self.refuses(NoPlace, value, with_length, court, value, "b", value)
            self.refuses(NoPlace, value, with_length, court, "b", value, value)
            self.refuses(NoWay, ("c", "a"), with_length, court, "c", "a", value)
            self.refuses(NoWay, ("c", "c"), with_length, court, "c", "c", value)
        self.refuses(NoWay, ("a", "c"), with_length, court, "a", "c", 3)


class WithStretch(Case):
    def test_the_line_says_so(self):
        rows = [
            ((1, 99), (99, 1), "1/99 99"), ((1, 1), (1, 1), "1 1"), ((2, 3), (197, 2), "2/3 197/2"),
            ((99, 100), (100, 99), "99/100 100/99"),
        ]
        for p, q, words in rows:
            court = with_stretch(court_of(LINE), p, q)
            self.same(court.text, text_of(changed(LINE, "stretch 1/2 2", f"stretch {words}")))
            self.same(court.stretch, (p, q))

    def test_wrong_arguments(self):
        court = court_of(LINE)
        wrong = [
            (0, 1), (-1, 2), (3, 2), (2, 4), (2, 2), (1, 0), (1, -2), (-1, -2), (0, 0), (1,), (1, 2, 3), [1, 2],
            (True, 2), (1, True), ("1", 2), (1, None), 1, "1/2",
        ]
        for value in wrong_values() + wrong:
            self.refuses(BadStretch, (value, (2, 1)), with_stretch, court, value, (2, 1))
            self.refuses(BadStretch, (value, value), with_stretch, court, value, value)
        for value in wrong_values() + [(1, 2), (100, 1), (199, 2), (4, 2), (0, 1), (3, -1), (True, 1), (2, True), 2]:
            self.refuses(BadStretch, ((1, 2), value), with_stretch, court, (1, 2), value)
