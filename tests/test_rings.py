"""Section 7: needs, rings of players, and rows of lags."""

from nevertakenback.courts import Court, delay, with_delay, with_stretch
from nevertakenback.errors import BadLags, BadRing, NoPlayer, Ring, Same
from nevertakenback.lags import greatest_delay, least_above, noughts
from nevertakenback.rings import holds, is_right, needs, ring_need, shows_holds
from tests.samples import (
    LINE, PLAY, TRIANGLE, Case, changed, court_of, great_court_lines, play_of, wrong_rows, wrong_values,
)

# The courts of the example in section 7: round ann, bob and cid the first one needs too much, the other one just 0.
STAR = [
    "court", "stretch 1/2 2", "place a", "place m", "place b", "place c", "way a m 4", "way m b 4", "way m c 2",
    "player ann a", "player bob b", "player cid c", "delay ann bob 5", "delay bob ann 2", "delay ann cid 1",
    "delay cid ann 4", "delay bob cid 3", "delay cid bob 2", "ball x a",
]
CALM = changed(STAR, "delay bob cid 3", "delay bob cid 1")

# Six players around a ring of ways, each of whom hears of the next one just as late as the ways allow.
WHEEL = (
    ["court", "stretch 3/4 2"]
    + [f"place {place}" for place in "abcdef"]
    + [f"way {one} {other} 4" for one, other in zip("abcdef", "bcdefa")]
    + [f"player p{place} {place}" for place in "abcdef"]
    + [f"delay p{one} p{other} 1" for one, other in zip("abcdef", "bcdefa")]
    + ["ball x a"]
)
NAMES = ("pa", "pb", "pc", "pd", "pe", "pf")


class Needs(Case):
    def test_of_rooms_of_several_places(self):
        lines = ["court", "stretch 1/3 3/2", "place a", "place b", "place c", "place d", "way a b 7", "way b c 3"]
        lines += ["way c d 5", "player q d b", "player p a", "delay q p 9", "ball x a"]
        # c is 1/2; from a to b it is 7, from a to d 15.
        self.same(needs(court_of(lines)), (("q", "p", (11, 2)), ("p", "q", (-7, 2))))

    def test_where_nothing_is_given(self):
        for stretch in ("stretch 1 1", "stretch 1 99", "stretch 1/99 1"):
            lines = changed(TRIANGLE, "stretch 1/2 7/4", stretch)
            self.same(needs(court_of(lines)), (("ann", "bob", (0, 1)), ("bob", "ann", (3, 1))))

    def test_without_delays(self):
        lines = [line for line in LINE if not line.startswith("delay")]
        self.same(needs(court_of(lines)), (("p", "q", (-5, 2)), ("q", "p", (-5, 2))))

    def test_in_the_players_sequence(self):
        pairs = [(one, other) for one in NAMES for other in NAMES if one != other]
        self.same([row[:2] for row in needs(court_of(WHEEL))], pairs)

    def test_in_least_terms(self):
        lines = changed(changed(LINE, "stretch 1/2 2", "stretch 3/5 2"), "delay p q 3", "delay p q 2")
        self.same(needs(court_of(lines)), (("p", "q", (0, 1)), ("q", "p", (-1, 1))))


class RingNeed(Case):
    def test_from_whichever_player_on(self):
        court = court_of(STAR)
        for ring in (("ann", "bob", "cid"), ("bob", "cid", "ann"), ("cid", "ann", "bob")):
            self.same(ring_need(court, ring), (2, 1))
            self.same(ring_need(court, ring[::-1]), (-5, 1))
        for ring in (("ann", "bob"), ("bob", "ann")):
            self.same(ring_need(court, ring), (-1, 1))

    def test_of_all_players(self):
        court = court_of(WHEEL)
        for at in range(6):
            self.same(ring_need(court, NAMES[at:] + NAMES[:at]), (0, 1))
            self.same(ring_need(court, NAMES[at::-1] + NAMES[:at:-1]), (-6, 1))
        self.same(ring_need(court, ("pa", "pd")), (-6, 1))
        self.same(ring_need(with_delay(court, "pa", "pd", 2), ("pa", "pd")), (-4, 1))

    def test_of_two_players(self):
        self.same(ring_need(court_of(TRIANGLE), ("bob", "ann")), (-3, 1))
        self.same(ring_need(court_of(LINE), ("p", "q")), (-1, 1))

    def test_values_that_are_no_ring(self):
        court = court_of(STAR)
        wrong = [
            ("ann",), ("ann", "ann"), ("ann", "bob", "ann"), ("ann", "bob", "cid", "ann"), ("ann", "dan"), ("ann", "a"),
            ["ann", "bob"], ("ann", None), ("ann", ("bob",)), (("ann", "bob"),), "ann", ("ann", ["bob"]), ("ann", 1),
            ("ann", "bob", {}), ("x", "ann"), ("ann", "bob", ""), ("ann", "bob", "cid", "dan"), ("bob", True),
        ]
        for value in wrong + wrong_values():
            self.refuses(BadRing, value, ring_need, court, value)


class IsRight(Case):
    def test_with_nothing_to_spare(self):
        court = court_of(CALM)
        right = [((1, 1), (0, 1), (2, 1)), ((3, 2), (1, 2), (5, 2)), ((10, 1), (9, 1), (11, 1))]
        for lags in right:
            self.assertIs(is_right(court, lags), True)
        wrong = [
            ((0, 1), (0, 1), (0, 1)), ((1, 1), (0, 1), (1, 1)), ((1, 1), (0, 1), (19, 10)), ((9, 10), (0, 1), (2, 1)),
            ((1, 1), (1, 10), (2, 1)), ((1, 1), (0, 1), (21, 10)),
        ]
        for lags in wrong:
            self.assertIs(is_right(court, lags), False)

    def test_no_row_is_right_if_a_ring_needs_too_much(self):
        for lags in (((0, 1),) * 3, ((1, 1), (0, 1), (2, 1)), ((99, 1), (0, 1), (0, 1)), ((1, 2), (1, 3), (1, 4))):
            self.assertIs(is_right(court_of(STAR), lags), False)

    def test_what_is_no_row_of_lags(self):
        court = court_of(CALM)
        for value in wrong_rows(((1, 1), (0, 1), (2, 1))):
            self.refuses(BadLags, value, is_right, court, value)
            self.refuses(BadLags, value, least_above, court, value)


class Holds(Case):
    def test_least_rows(self):
        for lines, lags in (
            (CALM, ((1, 1), (0, 1), (2, 1))), (LINE, ((1, 2), (0, 1))), (TRIANGLE, ((0, 1), (0, 1))), (WHEEL, ((0, 1),) * 6),
        ):
            court = court_of(lines)
            self.same(holds(court), ("lags", lags))
            self.assertIs(is_right(court, lags), True)
            self.assertIs(shows_holds(court, ("lags", lags)), True)

    def test_a_ring_of_all_players(self):
        for at, name in enumerate(NAMES):
            for many in (0, 2, 99):
                court = with_delay(court_of(WHEEL), name, NAMES[(at + 1) % 6], many)
                self.same(holds(court)[0], "lags" if many == 0 else "ring")
        court = with_delay(court_of(WHEEL), "pa", "pb", 2)
        kind, ring = holds(court)
        self.same([kind, ring_need(court, ring)], ["ring", (1, 1)])
        self.same(sorted(ring), sorted(NAMES))
        for at in range(6):
            turned = NAMES[at:] + NAMES[:at]
            self.assertIs(shows_holds(court, ("ring", turned)), True)
            self.assertIs(shows_holds(court, ("ring", turned[::-1])), False)

    def test_a_ring_of_two_of_many(self):
        bare = court_of([line for line in WHEEL if not line.startswith("delay")])
        court = with_delay(with_delay(bare, "pb", "pe", 4), "pe", "pb", 3)
        kind, ring = holds(court)
        self.same([kind, sorted(ring), ring_need(court, ring)], ["ring", ["pb", "pe"], (1, 1)])
        self.assertIs(shows_holds(court, ("ring", ("pe", "pb"))), True)
        just = with_delay(court, "pe", "pb", 2)
        self.same([holds(just)[0], ring_need(just, ("pb", "pe"))], ["lags", (0, 1)])

    def test_where_nothing_is_given(self):
        still = with_stretch(court_of(CALM), (1, 1), (2, 1))
        self.same(holds(still)[0], "ring")
        for court in (still, with_stretch(court_of(great_court_lines()), (1, 2), (1, 1))):
            kind, ring = holds(court)
            self.assertIs(shows_holds(court, (kind, ring)), True)
        bare = court_of([line for line in changed(CALM, CALM[1], "stretch 1 1") if not line.startswith("delay")])
        self.same(holds(bare), ("lags", ((0, 1),) * 3))
        late = with_delay(bare, "ann", "bob", 5)
        # What bob does is known to ann late, but nothing that she does to him: a ring of both needs 5.
        self.same([holds(late)[0], ring_need(late, ("ann", "bob"))], ["ring", (5, 1)])

    def test_the_greatest_court(self):
        court = court_of(great_court_lines())
        # 98/99 of 99 are given over each way, which is 1 too little.
        kind, ring = holds(court)
        self.same([kind, shows_holds(court, (kind, ring))], ["ring", True])
        less = court_of([line.replace(" 99", " 98") if line.startswith("delay") else line for line in great_court_lines()])
        self.same(holds(less), ("lags", ((0, 1),) * 6))
        self.same(greatest_delay(less, "pa", "pb"), 98)


class ShowsHolds(Case):
    def test_what_is_told_in_the_place_of_lags(self):
        court = court_of(CALM)
        lags = ((1, 1), (0, 1), (2, 1))
        wrong = [
            ("lags",), ("lags", lags, lags), ["lags", lags], ("lags", list(lags)), ("ring", lags), (lags, "lags"), lags,
            ("lags", ((2, 1), (1, 1), (3, 1))), ("lags", ((1, 1), (0, 1), (3, 1))), ("lags", ((1, 1), (0, 1))), ("lags", None),
            ("lags", ((1, 1), (0, 1), (2, True))), ("lags", ((True, 1), (0, 1), (2, 1))), ("lags", ((1, 1), (False, 1), (2, 1))),
            ("lags", ((2, 2), (0, 1), (2, 1))), ("lags", ([1, 1], (0, 1), (2, 1))), ("Lags", lags), (True, lags), "lags",
            ("lags", ((1, 1), (0, 2), (2, 1))), ("lags", ((1, 1), 0, (2, 1))), (("lags", lags),), ("ring", ("ann", "bob")),
            ("ring", ("ann", "bob", "cid")), ("lags", ("ann", "bob", "cid")), (["lags"], lags), ({}, {}), (court, lags),
            ("lags", court), (play_of(PLAY, LINE), lags),
        ]
        self.assertIs(shows_holds(court, ("lags", lags)), True)
        for value in wrong + wrong_values():
            self.assertIs(shows_holds(court, value), False)

    def test_what_is_told_in_the_place_of_a_ring(self):
        court = court_of(STAR)
        wrong = [
            ("ring", ("ann", "bob")), ("ring", ("ann", "cid", "bob")), ("ring", ["ann", "bob", "cid"]), ("ring",), ("ring", ()),
            ("ring", ("ann", "bob", "cid", "ann")), ("ring", ("ann", "bob", "dan")), ("lags", ("ann", "bob", "cid")),
            ["ring", ("ann", "bob", "cid")], ("ring", ("ann", "bob", "cid"), 1), ("ann", "bob", "cid"), ("ring", None), "ring",
            ("ring", (("ann",), "bob", "cid")), ("ring", (1, 2)), ("ring", ((1, 1), (0, 1), (2, 1))), ("ring", ("ann",)),
            ("lags", ((1, 1), (0, 1), (2, 1))), (("ann", "bob", "cid"), "ring"), ("ring", (True, "bob", "cid")),
        ]
        self.assertIs(shows_holds(court, ("ring", ("ann", "bob", "cid"))), True)
        for value in wrong + wrong_values():
            self.assertIs(shows_holds(court, value), False)

    def test_a_ring_whose_need_is_just_0_bars_nothing(self):
        self.assertIs(shows_holds(court_of(CALM), ("ring", ("ann", "bob", "cid"))), False)
        self.assertIs(shows_holds(court_of(WHEEL), ("ring", NAMES)), False)


class LeastAbove(Case):
    def test_floors(self):
        court = court_of(CALM)
        told = [
            (((0, 1),) * 3, ((1, 1), (0, 1), (2, 1))), (((1, 1), (0, 1), (2, 1)), ((1, 1), (0, 1), (2, 1))),
            (((0, 1), (0, 1), (5, 2)), ((3, 2), (1, 2), (5, 2))), (((7, 1), (0, 1), (0, 1)), ((7, 1), (6, 1), (8, 1))),
            (((1, 3), (1, 7), (1, 9)), ((8, 7), (1, 7), (15, 7))), (((9, 1), (8, 1), (10, 1)), ((9, 1), (8, 1), (10, 1))),
        ]
        for floors, lags in told:
            self.same(least_above(court, floors), lags)
            self.same(least_above(court, lags), lags)

    def test_floors_that_matter_to_some_alone(self):
        court = court_of(LINE)
        self.same(least_above(court, ((0, 1), (0, 1))), ((1, 2), (0, 1)))
        self.same(least_above(court, ((2, 1), (0, 1))), ((2, 1), (1, 2)))
        self.same(least_above(court, ((2, 1), (7, 4))), ((9, 4), (7, 4)))
        self.same(least_above(court_of(WHEEL), ((0, 1),) * 5 + ((3, 1),)), ((3, 1),) * 6)

    def test_a_ring_in_its_place(self):
        court = court_of(STAR)
        for floors in (((0, 1),) * 3, ((1, 1), (0, 1), (2, 1)), ((99, 1), (98, 1), (0, 1))):
            with self.assertRaises(Ring) as caught:
                least_above(court, floors)
            self.assertIs(shows_holds(court, ("ring", caught.exception.value)), True)
        self.refuses(BadLags, ((1, 1),), least_above, court, ((1, 1),))


class Noughts(Case):
    def test_players_who_need_not_lag(self):
        self.same(noughts(court_of(CALM)), ("bob",))
        self.same(noughts(court_of(LINE)), ("q",))
        self.same(noughts(court_of(WHEEL)), NAMES)
        self.same(noughts(court_of(TRIANGLE)), ("ann", "bob"))

    def test_a_ring_in_their_place(self):
        with self.assertRaises(Ring) as caught:
            noughts(court_of(STAR))
        self.assertIs(shows_holds(court_of(STAR), ("ring", caught.exception.value)), True)


class GreatestDelay(Case):
    def test_up_to_it_there_are_lags(self):
        for lines in (CALM, LINE, TRIANGLE, WHEEL):
            court = court_of(lines)
            for one, other, ticks in court.delays:
                most = greatest_delay(court, one, other)
                self.assertGreaterEqual(most, ticks)
                if most < 99:
                    self.same(holds(with_delay(court, one, other, most))[0], "lags")
                    self.same(holds(with_delay(court, one, other, most + 1))[0], "ring")

    def test_of_two_players(self):
        court = court_of(TRIANGLE)
        # 1/2 times 6, twice, less the delay of the other one.
        self.same([greatest_delay(court, "ann", "bob"), greatest_delay(court, "bob", "ann")], [3, 6])
        court = with_delay(court, "bob", "ann", 6)
        self.same([greatest_delay(court, "ann", "bob"), greatest_delay(court, "bob", "ann")], [0, 6])

    def test_rounded_down(self):
        court = with_stretch(court_of(TRIANGLE), (2, 3), (2, 1))
        # 1/3 times 6, twice, is 4; by 3/8 it is 9/2.
        self.same([greatest_delay(court, "ann", "bob"), greatest_delay(court, "bob", "ann")], [1, 4])
        court = with_stretch(court, (5, 8), (2, 1))
        self.same([greatest_delay(court, "ann", "bob"), greatest_delay(court, "bob", "ann")], [1, 4])

    def test_above_99(self):
        lines = ["court", "stretch 1/2 2", "place a", "place b", "place c", "way a b 99", "way b c 99", "player p a"]
        court = court_of(lines + ["player q c", "delay q p 7", "ball x a"])
        self.same([greatest_delay(court, "p", "q"), greatest_delay(court, "q", "p")], [191, 198])

    def test_wrong_arguments(self):
        court = court_of(CALM)
        for value in wrong_values() + ["a", "x", "dan"]:
            self.refuses(NoPlayer, value, greatest_delay, court, value, "ann")
            self.refuses(NoPlayer, value, greatest_delay, court, "ann", value)
            self.refuses(NoPlayer, value, greatest_delay, court, value, "dan")
            self.refuses(NoPlayer, value, greatest_delay, court_of(STAR), value, "ann")
            self.refuses(NoPlayer, value, greatest_delay, court_of(STAR), "ann", value)
        for name in ("ann", "bob", "cid"):
            self.refuses(Same, name, greatest_delay, court, name, name)
            self.refuses(Same, name, greatest_delay, court_of(STAR), name, name)
        self.in_sequence(greatest_delay, (court, "ann", "bob"), (1, NoPlayer, "dan"), (2, NoPlayer, None))
        with self.assertRaises(Ring) as caught:
            greatest_delay(court_of(STAR), "ann", "cid")
        self.assertIs(shows_holds(court_of(STAR), ("ring", caught.exception.value)), True)

    def test_nothing_is_changed(self):
        court = court_of(CALM)
        for _ in range(2):
            self.same([greatest_delay(court, "bob", "cid"), delay(court, "bob", "cid")], [1, 1])
        self.assertEqual(court, Court(court.text))
