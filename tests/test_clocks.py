"""Section 15: clocks that are set otherwise."""

from nevertakenback.clocks import lags_of, led_back, measured, shows_lags_of
from nevertakenback.errors import BadLags, BadNeeds, BadOffsets
from nevertakenback.rings import holds, is_right, needs
from tests.samples import LINE, TRIANGLE, Case, court_of, great_court_lines, wrong_rows, wrong_values
from tests.test_fields import whole
from tests.test_rings import CALM, STAR, WHEEL

# The court of the example in section 15.
COURT = [
    "court", "stretch 1/2 3/2", "place a", "place b", "place c", "way a b 4", "way b c 2", "player ann a", "player bob b",
    "delay ann bob 3", "ball x a",
]
OFFSETS = ((1, 1), (-1, 2))
TABLE = (("ann", "bob", (5, 2)), ("bob", "ann", (-7, 2)))


def wrong_offsets(row):
    """Values that are no tuple of as many fractions."""
    below = ((-1, 1), (-1, 2))
    return [value for value in wrong_rows(row) if not is_offsets_with(value, below, len(row))]


def is_offsets_with(value, parts, many):
    """Whether this is a row that is wrong only because of a fraction below 0."""
    return isinstance(value, tuple) and len(value) == many and any(part in parts for part in value)


class Measured(Case):
    def test_the_difference_of_both_offsets_counts(self):
        court = court_of(COURT)
        self.same(measured(court, OFFSETS), TABLE)
        self.same(measured(court, whole(7, 7)), needs(court))
        self.same(measured(court, ((-22, 7), (-22, 7))), needs(court))
        self.same(measured(court, whole(0, 3)), (("ann", "bob", (-2, 1)), ("bob", "ann", (1, 1))))

    def test_without_offsets_they_are_the_needs(self):
        for lines in (COURT, STAR, CALM, WHEEL, LINE, great_court_lines()):
            court = court_of(lines)
            self.same(measured(court, ((0, 1),) * len(court.players)), needs(court))

    def test_offsets_of_any_size_below_0_too(self):
        court = court_of(CALM)
        rows = measured(court, ((-10 ** 11, 1), (1, 3), (10 ** 11, 7)))
        self.same(rows[0], ("ann", "bob", (-3 * 10 ** 11 + 2, 3)))
        self.same([row[:2] for row in rows], [row[:2] for row in needs(court)])

    def test_wrong_offsets(self):
        court = court_of(COURT)
        for value in wrong_offsets(OFFSETS):
            self.refuses(BadOffsets, value, measured, court, value)


class LagsOf(Case):
    def test_the_least_row(self):
        court = court_of(COURT)
        self.same(lags_of(court, TABLE), ("lags", ((5, 2), (0, 1))))
        self.same(lags_of(court, needs(court)), holds(court))
        self.same(lags_of(court, (("ann", "bob", (0, 1)), ("bob", "ann", (0, 1)))), ("lags", whole(0, 0)))
        self.same(lags_of(court, (("ann", "bob", (-7, 1)), ("bob", "ann", (7, 1)))), ("lags", whole(0, 7)))

    def test_a_ring_that_bars_all(self):
        court = court_of(COURT)
        kind, ring = lags_of(court, (("ann", "bob", (-7, 1)), ("bob", "ann", (50, 7))))
        self.same([kind, tuple(sorted(ring))], ["ring", ("ann", "bob")])
        court = court_of(STAR)
        kind, ring = lags_of(court, measured(court, ((5, 1), (-3, 2), (0, 1))))
        self.same(kind, "ring")
        self.assertIn(ring, (("ann", "bob", "cid"), ("bob", "cid", "ann"), ("cid", "ann", "bob")))

    def test_needs_that_no_clocks_measure_are_needs_all_the_same(self):
        court = court_of(WHEEL)
        table = tuple((one, other, (1, 2) if one < other else (-3, 1)) for one, other, _ in needs(court))
        self.same(lags_of(court, table), ("lags", ((5, 2), (2, 1), (3, 2), (1, 1), (1, 2), (0, 1))))

    def test_wrong_needs(self):
        court = court_of(COURT)
        one, other = TABLE
        wrong = wrong_values() + [
            TABLE[:1], TABLE[::-1], TABLE + (one,), list(TABLE), (one, one), (one, list(other)), (one, other[:2]), (one, other + (0,)),
            (one, ("bob", "ann", 2)), (one, ("bob", "ann", (2, 4))), (one, ("bob", "ann", (1, 0))), (one, ("bob", "ann", [1, 2])),
            (one, ("bob", "ann", (True, 2))), (one, ("bob", "ann", (1, True))), (one, ("ann", "bob", (1, 2))), (one, ("bob", "bob", (1, 2))),
            (one, ("bob", "cid", (1, 2))), (one, ("Bob", "ann", (1, 2))), (one, ("bob", None, (1, 2))), (one, (["bob"], "ann", (1, 2))),
            (one, None), needs(court_of(STAR)), (one, (("bob", "ann"), (1, 2))), ((one, other),), needs(court_of(LINE)),
        ]
        for value in wrong_values():
            wrong += [(one, value), (one, (value, "ann", (1, 2))), (one, ("bob", value, (1, 2))), (one, ("bob", "ann", value))]
        for value in wrong:
            self.refuses(BadNeeds, value, lags_of, court, value)
            self.refuses(BadNeeds, value, shows_lags_of, court, value, ("lags", whole(0, 0)))


class Shows(Case):
    def test_the_least_row_alone(self):
        court = court_of(COURT)
        row = ((5, 2), (0, 1))
        self.assertIs(shows_lags_of(court, TABLE, ("lags", row)), True)
        wrong = wrong_values() + [
            ("lags", ((7, 2), (1, 1))), ("lags", ((3, 1), (0, 1))), ("lags", ((2, 1), (0, 1))), ("lags", list(row)), ["lags", row],
            ("lags", row, ()), ("lags",), ("Lags", row), ("ring", row), row, ("lags", ((10, 4), (0, 1))), ("lags", ((5, 2), (0, True))),
            ("lags", ((5, 2), (False, 1))), ("lags", row[:1]), ("lags", row + row), ("ring", ("ann", "bob")), ("lags", None),
        ]
        for value in wrong:
            self.assertIs(shows_lags_of(court, TABLE, value), False)

    def test_each_ring_that_bars_all(self):
        court = court_of(STAR)
        table = measured(court, ((5, 1), (-3, 2), (0, 1)))
        for ring in (("ann", "bob", "cid"), ("bob", "cid", "ann"), ("cid", "ann", "bob")):
            self.assertIs(shows_lags_of(court, table, ("ring", ring)), True)
        wrong = wrong_values() + [
            ("ring", ("ann", "cid", "bob")), ("ring", ("ann", "bob")), ("ring", ["ann", "bob", "cid"]), ("ring", ("ann",)), ("ring", ()),
            ("ring", ("ann", "bob", "cid") * 2), ("ring", ("ann", "bob", "dan")), ("ring",), ("lags", ("ann", "bob", "cid")),
            ("lags", whole(1, 0, 2)), ["ring", ("ann", "bob", "cid")], ("ring", ("ann", "bob", "cid"), ()), ("ring", None),
            ("ring", ("ann", "ann")), ("ring", "ann"), ("ring", (["ann"], "bob")),
        ]
        for value in wrong:
            self.assertIs(shows_lags_of(court, table, value), False)


class LedBack(Case):
    def test_less_the_offsets(self):
        court = court_of(COURT)
        self.same(led_back(court, ((5, 2), (0, 1)), OFFSETS), ((3, 2), (1, 2)))
        self.same(led_back(court, whole(5, 3), whole(5, 3)), whole(0, 0))
        self.same(led_back(court, whole(5, 3), whole(1, 1)), whole(4, 2))

    def test_raised_if_one_is_below_0(self):
        court = court_of(COURT)
        self.same(led_back(court, whole(0, 0), whole(1, 1)), whole(0, 0))
        self.same(led_back(court, whole(2, 0), ((0, 1), (1, 2))), ((5, 2), (0, 1)))
        self.same(led_back(court, whole(0, 9), whole(7, 1)), whole(0, 15))
        self.same(led_back(court_of(CALM), whole(1, 0, 2), ((1, 1), (1, 3), (5, 2))), ((1, 2), (1, 6), (0, 1)))

    def test_only_then(self):
        court = court_of(COURT)
        self.same(led_back(court, whole(4, 3), whole(-1, -1)), whole(5, 4))
        self.same(led_back(court, whole(0, 0), whole(-1, -2)), whole(1, 2))

    def test_they_are_right_for_the_court(self):
        court = court_of(CALM)
        for offsets in (whole(0, 0, 0), whole(9, -3, 4), ((1, 2), (-1, 3), (22, 7)), whole(-5, -5, -5)):
            row = lags_of(court, measured(court, offsets))[1]
            self.assertIs(is_right(court, led_back(court, row, offsets)), True)

    def test_rows_that_are_not_right_are_led_back_too(self):
        self.same(led_back(court_of(TRIANGLE), whole(90, 0), whole(1, 0)), whole(89, 0))

    def test_wrong_arguments(self):
        court = court_of(COURT)
        lags = ((5, 2), (0, 1))
        for value in wrong_rows(lags):
            self.refuses(BadLags, value, led_back, court, value, OFFSETS)
        for value in wrong_offsets(OFFSETS):
            self.refuses(BadOffsets, value, led_back, court, lags, value)
        self.in_sequence(led_back, (court, lags, OFFSETS), (1, BadLags, whole(-1, 0)), (2, BadOffsets, [OFFSETS]))
