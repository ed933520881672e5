"""Section 14: headroom, and what bars more."""

from nevertakenback.courts import with_delay, with_stretch
from nevertakenback.errors import BadFactor, BadFraction, Ring
from nevertakenback.headroom import headroom, holds_by, least_slowing, shows_headroom, tight
from nevertakenback.rings import holds
from tests.samples import LINE, TRIANGLE, Case, changed, court_of, great_court_lines, wrong_values
from tests.test_rings import CALM, NAMES, STAR, WHEEL


def bare(lines):
    return [line for line in lines if not line.startswith("delay")]


class HoldsBy(Case):
    def test_by_1_it_is_what_holds_tells(self):
        for lines in (STAR, CALM, WHEEL, LINE, TRIANGLE, great_court_lines()):
            court = court_of(lines)
            self.same(holds_by(court, (1, 1)), holds(court))

    def test_by_0_all_lags_are_0(self):
        for lines in (STAR, WHEEL, great_court_lines()):
            court = court_of(lines)
            self.same(holds_by(court, (0, 1)), ("lags", ((0, 1),) * len(court.players)))

    def test_by_factors_around_the_headroom(self):
        court = court_of(STAR)
        self.same(holds_by(court, (5, 6)), ("lags", ((1, 6), (0, 1), (1, 2))))
        for factor in ((1, 2), (4, 5), (833333, 1000000)):
            self.same(holds_by(court, factor)[0], "lags")
        for factor in ((416667, 500000), (6, 7), (1, 1)):
            kind, ring = holds_by(court, factor)
            self.same([kind, tuple(sorted(ring))], ["ring", ("ann", "bob", "cid")])
        for factor in ((99, 1), (10 ** 11, 1)):
            self.same(holds_by(court, factor)[0], "ring")

    def test_what_is_no_fraction(self):
        court = court_of(STAR)
        for value in wrong_values() + [1, 0, (2, 4), (0, 2), (1, 0), (1, -1), (True, 1), (1, True), [1, 2], (1, 2, 3), "1/2"]:
            self.refuses(BadFraction, value, holds_by, court, value)

    def test_fractions_below_0(self):
        for value in ((-1, 1), (-1, 2), (-10 ** 11, 7)):
            self.refuses(BadFactor, value, holds_by, court_of(STAR), value)


class Headroom(Case):
    def test_the_greatest_factor_and_a_ring(self):
        kind, factor, ring = headroom(court_of(STAR))
        self.same([kind, factor, tuple(sorted(ring))], ["factor", (5, 6), ("ann", "bob", "cid")])
        self.same(headroom(court_of(CALM))[:2], ("factor", (1, 1)))
        # Ways of 5 both ways, by 1/2, and delays of 3 and 1.
        self.same(headroom(court_of(LINE))[:2], ("factor", (5, 4)))
        self.same(headroom(court_of(TRIANGLE))[:2], ("factor", (2, 1)))

    def test_round_six_players(self):
        kind, factor, ring = headroom(court_of(WHEEL))
        at = NAMES.index(ring[0])
        self.same([kind, factor, ring], ["factor", (1, 1), NAMES[at:] + NAMES[:at]])

    def test_without_delays(self):
        for lines in (STAR, WHEEL, LINE):
            self.same(headroom(court_of(bare(lines))), ("any",))
        lines = bare(LINE)
        lines = lines[:-2] + ["delay p q 0", "delay q p 0"] + lines[-2:]
        self.same(headroom(court_of(lines)), ("any",))
        for stretch in (((1, 1), (1, 1)), ((1, 2), (1, 1)), ((1, 1), (9, 1))):
            self.same(headroom(with_stretch(court_of(bare(STAR)), *stretch)), ("any",))

    def test_where_nothing_is_given(self):
        for stretch in (((1, 1), (1, 1)), ((1, 99), (1, 1)), ((1, 1), (99, 1))):
            court = with_stretch(court_of(TRIANGLE), *stretch)
            self.same(headroom(court)[:2], ("factor", (0, 1)))
            self.assertIs(shows_headroom(court, ("factor", (0, 1), ("ann", "bob"))), True)
            self.assertIs(shows_headroom(court, ("factor", (0, 1), ("bob", "ann"))), True)

    def test_one_delay_alone(self):
        court = court_of(TRIANGLE)
        self.same(headroom(court), ("factor", (2, 1), headroom(court)[2]))
        self.same(headroom(with_delay(court, "bob", "ann", 99))[:2], ("factor", (2, 33)))
        self.same(headroom(with_delay(court, "bob", "ann", 1))[:2], ("factor", (6, 1)))
        court = with_stretch(court, (1, 2), (1000001, 1000000))
        self.same(headroom(court)[:2], ("factor", (1, 250000)))


class Shows(Case):
    def test_each_right_ring(self):
        court = court_of(STAR)
        for ring in (("ann", "bob", "cid"), ("bob", "cid", "ann"), ("cid", "ann", "bob")):
            self.assertIs(shows_headroom(court, ("factor", (5, 6), ring)), True)
        self.assertIs(shows_headroom(court, headroom(court)), True)

    def test_what_is_not_right(self):
        court = court_of(STAR)
        ring = ("ann", "bob", "cid")
        wrong = wrong_values() + [
            ("any",), ("factor", (5, 6)), ("factor", (5, 6), ring, ()), ["factor", (5, 6), ring], ("Factor", (5, 6), ring),
            ("factor", (4, 5), ring), ("factor", (6, 7), ring), ("factor", (1, 1), ring), ("factor", (10, 12), ring),
            ("factor", [5, 6], ring), ("factor", (5, 6), ("ann", "cid", "bob")), ("factor", (5, 6), ("ann", "bob")),
            ("factor", (8, 7), ("ann", "bob")), ("factor", (5, 6), list(ring)), ("factor", (5, 6), ring * 2),
            ("factor", (5, 6), ("ann",)), ("factor", (5, 6), ()), ("factor", (5, 6), ("ann", "bob", "dan")), (5, 6),
            ("factor", (5, 6), ("ann", "bob", "cid", "ann")), ("factor", (5, 6), None), ("any", (5, 6), ring), ("lags", (5, 6), ring),
        ]
        for value in wrong_values():
            wrong += [("factor", value, ring), ("factor", (5, 6), value), (value, (5, 6), ring), (value,)]
        for value in wrong:
            self.assertIs(shows_headroom(court, value), False)

    def test_true_is_not_1(self):
        court = court_of(CALM)
        ring = ("ann", "bob", "cid")
        self.assertIs(shows_headroom(court, ("factor", (1, 1), ring)), True)
        for factor in ((True, 1), (1, True), 1, True, (2, 2)):
            self.assertIs(shows_headroom(court, ("factor", factor, ring)), False)

    def test_any(self):
        court = court_of(bare(STAR))
        self.assertIs(shows_headroom(court, ("any",)), True)
        ring = ("ann", "bob", "cid")
        for value in wrong_values() + ["any", ["any"], ("any", ()), ("factor", (1, 1), ring), (), (("any",),), ("Any",), ("factor",)]:
            self.assertIs(shows_headroom(court, value), False)

    def test_a_ring_without_delays_shows_nothing(self):
        lines = STAR[:12] + ["delay ann bob 5", "ball x a"]
        court = with_stretch(court_of(lines), (1, 1), (1, 1))
        for ring, right in (
            (("ann", "bob"), True), (("bob", "ann"), True), (("ann", "cid"), False), (("bob", "cid"), False),
            (("ann", "bob", "cid"), True), (("ann", "cid", "bob"), False),
        ):
            self.assertIs(shows_headroom(court, ("factor", (0, 1), ring)), right)


class Tight(Case):
    def test_round_a_ring_that_needs_just_0(self):
        self.same(tight(court_of(CALM)), (("ann", "bob"), ("bob", "cid"), ("cid", "ann")))

    def test_several_rings(self):
        pairs = tuple(sorted(zip(NAMES, NAMES[1:] + NAMES[:1])))
        self.same(tight(court_of(WHEEL)), pairs)
        lines = bare(LINE)
        court = court_of(lines[:-2] + ["delay p q 3", "delay q p 2"] + lines[-2:])
        self.same(tight(court), (("p", "q"), ("q", "p")))

    def test_in_the_sequence_of_needs(self):
        lines = STAR[:9] + ["player cid c", "player ann a", "player bob b"] + CALM[12:]
        self.same(tight(court_of(lines)), (("cid", "ann"), ("ann", "bob"), ("bob", "cid")))

    def test_where_all_could_be_later(self):
        for lines in (LINE, TRIANGLE, bare(STAR), bare(WHEEL)):
            self.same(tight(court_of(lines)), ())

    def test_where_nothing_is_given_all_are(self):
        court = with_stretch(court_of(bare(STAR)), (1, 1), (1, 1))
        pairs = tuple((one, other) for one in ("ann", "bob", "cid") for other in ("ann", "bob", "cid") if one != other)
        self.same(tight(court), pairs)

    def test_a_ring_that_bars_all_lags(self):
        for lines in (STAR, great_court_lines(), changed(WHEEL, "delay pa pb 1", "delay pa pb 2")):
            court = court_of(lines)
            self.refuses(Ring, holds(court)[1], tight, court)


class LeastSlowing(Case):
    def test_rounded_up(self):
        self.same([least_slowing(court_of(lines)) for lines in (STAR, CALM, WHEEL, LINE, TRIANGLE)], [2, 1, 1, 1, 1])
        court = court_of(TRIANGLE)
        # The ways round are 12 by 1/2, so that many ticks of delay are borne by each time as long ways.
        for ticks, times in ((0, 1), (6, 1), (7, 2), (12, 2), (13, 3), (99, 17)):
            self.same(least_slowing(with_delay(court, "bob", "ann", ticks)), times)

    def test_lengths_above_99(self):
        lines = ["court", "stretch 1/99 100/99", "place a", "place b", "way a b 1", "player p a", "player q b"]
        court = court_of(lines + ["delay p q 99", "delay q p 99", "ball x a"])
        self.same([headroom(court)[:2], least_slowing(court)], [("factor", (1, 9801)), 9801])

    def test_where_nothing_is_given(self):
        for stretch in (((1, 1), (1, 1)), ((1, 99), (1, 1)), ((1, 1), (99, 1))):
            self.same(least_slowing(with_stretch(court_of(TRIANGLE), *stretch)), None)
            self.same(least_slowing(with_stretch(court_of(bare(TRIANGLE)), *stretch)), 1)
