"""Section 8: fields, and what they are on spots."""

from nevertakenback.courts import with_stretch
from nevertakenback.errors import BadField, BadLags, BadSpot, NoPlayer, WrongLags
from nevertakenback.fields import all_fields, field_on, greatest_field, is_field, least_field
from nevertakenback.plays import Play
from nevertakenback.words import is_fraction
from tests.samples import (
    LINE, PLAY, Case, changed, court_of, great_court_lines, play_of, wrong_rows, wrong_values,
)
from tests.test_rings import CALM, NAMES, STAR, WHEEL

# The court of the example in section 8.
FORK = [
    "court", "stretch 1/2 2", "place a", "place m", "place b", "place f", "way a m 4", "way m b 4", "way m f 6",
    "player ann a", "player bob b", "delay ann bob 3", "delay bob ann 4", "ball x a",
]
LAGS = ((0, 1), (0, 1))

# Rooms of several places; from e to b there is a long way and a shorter row of ways round it.
ROOMS = [
    "court", "stretch 1/3 3/2", "place a", "place b", "place c", "place d", "place e", "way a b 2", "way b c 4",
    "way c d 2", "way d e 3", "way e a 1", "way e b 9", "player ann a b", "player bob c d", "delay ann bob 2",
    "delay bob ann 1", "ball x a",
]


def whole(*numbers):
    return tuple((number, 1) for number in numbers)


class Fields(Case):
    def test_of_rooms_of_several_places(self):
        court = court_of(ROOMS)
        lags = ((1, 1), (1, 2))
        self.same(least_field(court, lags, "ann"), ((1, 1), (1, 1), (5, 2), (5, 2), (1, 1)))
        self.same(greatest_field(court, lags, "ann"), ((1, 1), (1, 1), (3, 1), (3, 1), (3, 2)))
        self.same(least_field(court, lags, "bob"), ((2, 1), (2, 1), (1, 2), (1, 2), (3, 2)))
        self.same(greatest_field(court, lags, "bob"), ((5, 2), (5, 2), (1, 2), (1, 2), (2, 1)))

    def test_of_three_players(self):
        court = court_of(CALM)
        lags = whole(1, 0, 2)
        self.same(all_fields(court, lags), (whole(1, 3, 5, 3), whole(3, 2, 0, 3), whole(5, 3, 2, 2)))
        self.same(least_field(court, lags, "ann"), whole(1, 3, 5, 3))
        self.same(greatest_field(court, lags, "ann"), whole(1, 3, 5, 4))

    def test_of_six_players_with_nothing_to_spare(self):
        court = court_of(WHEEL)
        for player, field in zip(NAMES, all_fields(court, whole(0, 0, 0, 0, 0, 0))):
            at = NAMES.index(player)
            told = whole(0, 1, 0, 0, 0, 0)
            self.same(field, told[-at:] + told[:-at])
            self.assertIs(is_field(court, whole(0, 0, 0, 0, 0, 0), player, field), True)

    def test_where_nothing_is_given(self):
        court = with_stretch(court_of([line for line in CALM if not line.startswith("delay")]), (1, 1), (9, 1))
        for player in ("ann", "bob", "cid"):
            for call in (least_field, greatest_field):
                self.same(call(court, ((3, 2),) * 3, player), ((3, 2),) * 4)
        self.assertIs(is_field(court, whole(2, 2, 2), "bob", whole(2, 2, 2, 2)), True)
        self.assertIs(is_field(court, whole(2, 2, 2), "bob", whole(2, 2, 2, 3)), False)
        self.refuses(WrongLags, None, all_fields, court, whole(2, 2, 3))

    def test_lags_and_delays_of_0(self):
        lines = [line for line in LINE if not line.startswith("delay")]
        court = court_of(lines)
        self.same(all_fields(court, LAGS), (whole(0, 0, 0), whole(0, 0, 0)))
        self.same(greatest_field(court, LAGS, "q"), ((5, 2), (3, 2), (0, 1)))

    def test_lags_above_the_least_ones(self):
        court = court_of(FORK)
        self.same(least_field(court, whole(3, 3), "ann"), ((3, 1), (4, 1), (6, 1), (1, 1)))
        self.same(least_field(court, ((7, 2), (7, 2)), "bob"), ((15, 2), (11, 2), (7, 2), (5, 2)))

    def test_changes_over_a_way(self):
        court = court_of(FORK)
        # c is 1/2: over m f, which is 6 long, 3 is given.
        for last, right in (((4, 1), True), ((41, 10), False), ((0, 1), True)):
            self.assertIs(is_field(court, LAGS, "ann", whole(0, 1, 3) + (last,)), right)
        for middle, right in (((2, 1), True), ((201, 100), False), ((1, 1), True), ((99, 100), False)):
            self.assertIs(is_field(court, LAGS, "ann", ((0, 1), middle, (3, 1), (1, 1))), right)

    def test_the_own_room(self):
        court = court_of(ROOMS)
        lags = ((1, 1), (1, 2))
        right = least_field(court, lags, "ann")
        self.assertIs(is_field(court, lags, "ann", right), True)
        for at in (0, 1):
            for lag in ((11, 10), (9, 10), (0, 1)):
                self.assertIs(is_field(court, lags, "ann", right[:at] + (lag,) + right[at + 1:]), False)

    def test_the_rooms_of_others(self):
        court = court_of(ROOMS)
        lags = ((1, 1), (1, 2))
        right = least_field(court, lags, "ann")[:4] + ((3, 2),)
        for at in (2, 3):
            for late, is_right in (((5, 2), True), ((27, 10), True), ((3, 1), True), ((249, 100), False), ((2, 1), False)):
                self.assertIs(is_field(court, lags, "ann", right[:at] + (late,) + right[at + 1:]), is_right)

    def test_of_another_player(self):
        court = court_of(FORK)
        fields = all_fields(court, LAGS)
        self.assertIs(is_field(court, LAGS, "bob", fields[1]), True)
        self.assertIs(is_field(court, LAGS, "ann", fields[1]), False)
        self.assertIs(is_field(court, LAGS, "bob", fields[0]), False)

    def test_the_greatest_court(self):
        lines = [line.replace(" 99", " 98") if line.startswith("delay") else line for line in great_court_lines()]
        court = court_of(lines)
        lags = ((0, 1),) * 6
        for player, field in zip(NAMES, all_fields(court, lags)):
            self.assertIs(is_field(court, lags, player, field), True)
            self.assertIs(is_field(court, lags, player, greatest_field(court, lags, player)), True)


class FieldOn(Case):
    def test_at_places(self):
        court = court_of(FORK)
        field = ((0, 1), (1, 3), (7, 2), (9, 1))
        for place, late in zip("ambf", field):
            self.same(field_on(court, field, ("at", place)), late)

    def test_on_ways_from_either_end(self):
        court = court_of(FORK)
        field = ((0, 1), (1, 3), (7, 2), (9, 1))
        told = [("a", "m", (1, 4), (1, 12)), ("m", "b", (1, 2), (23, 12)), ("m", "f", (2, 3), (55, 9)), ("a", "m", (99, 100), (33, 100))]
        for one, other, part, late in told:
            self.same(field_on(court, field, ("on", one, other, part)), late)
            self.same(field_on(court, field, ("on", other, one, (part[1] - part[0], part[1]))), late)

    def test_fields_that_are_right_for_nobody(self):
        self.same(field_on(court_of(FORK), whole(0, 99, 0, 0), ("on", "a", "m", (1, 3))), (33, 1))

    def test_values_that_are_no_spots(self):
        court = court_of(FORK)
        field = whole(0, 1, 3, 0)
        wrong = [
            ("at",), ("at", "d"), ("at", "ann"), ("at", "a", "m"), ("at", ("a",)), ("on", "a"), ("at", "a", "m", (1, 2)),
            ["at", "a"], ("At", "a"), ("a", "at"), "at", ("at", None), ("at", ["a"]), ("in", "a"), (None, "a"), (True, "a"),
            ("on", "a", "m"), ("on", "a", "m", (1, 2), 0), ("on", "a", "b", (1, 2)), ("on", "a", "a", (1, 2)),
            ("on", "a", "d", (1, 2)), ("on", "d", "a", (1, 2)), ("on", "a", "m", (0, 1)), ("on", "a", "m", (1, 1)),
            ("on", "a", "m", (2, 4)), ("on", "a", "m", (3, 2)), ("on", "a", "m", (-1, 2)), ("on", "a", "m", 1),
            ("on", "a", "m", [1, 2]), ("on", "a", "m", (True, 2)), ("on", "a", "m", None), ["on", "a", "m", (1, 2)],
            ("on", ["a"], "m", (1, 2)), ("on", "a", ["m"], (1, 2)), ("on", "a", None, (1, 2)), ("on", "a", "m", (1, 2, 3)), ("on", "a", "m", (-1, -2)),
            ("by", "a", "m", (1, 2)), ("on", "f", "b", (1, 2)), (("at", "a"),), ("on", "a", "m", "1/2"), (court, "a"), ("at", {}),
        ]
        for value in wrong + wrong_values():
            self.refuses(BadSpot, value, field_on, court, field, value)

    def test_wrong_arguments(self):
        court = court_of(FORK)
        for value in wrong_rows(whole(0, 1, 3, 0)):
            self.refuses(BadField, value, field_on, court, value, ("at", "a"))
            self.refuses(BadField, value, field_on, court, value, ("at", "d"))


class Refused(Case):
    def test_what_are_no_lags(self):
        court = court_of(FORK)
        for value in wrong_rows(LAGS):
            self.refuses(BadLags, value, least_field, court, value, "ann")
            self.refuses(BadLags, value, greatest_field, court, value, "ann")
            self.refuses(BadLags, value, is_field, court, value, "ann", whole(0, 1, 3, 0))
            self.refuses(BadLags, value, all_fields, court, value)

    def test_lags_that_are_not_right(self):
        court = court_of(FORK)
        for lags in (whole(1, 0), whole(2, 1), ((1, 10), (0, 1))):
            self.refuses(WrongLags, None, least_field, court, lags, "ann")
            self.refuses(WrongLags, None, greatest_field, court, lags, "ann")
            self.refuses(WrongLags, None, is_field, court, lags, "ann", whole(0, 1, 3, 0))
            self.refuses(WrongLags, None, all_fields, court, lags)
        self.refuses(WrongLags, None, all_fields, court_of(STAR), whole(1, 0, 2))

    def test_who_is_no_player(self):
        court = court_of(FORK)
        for value in wrong_values() + ["a", "x", "dan", ("ann",)]:
            self.refuses(NoPlayer, value, least_field, court, LAGS, value)
            self.refuses(NoPlayer, value, greatest_field, court, LAGS, value)
            self.refuses(NoPlayer, value, is_field, court, LAGS, value, whole(0, 1, 3, 0))

    def test_what_is_no_field(self):
        court = court_of(FORK)
        for value in wrong_rows(whole(0, 1, 3, 0)):
            self.refuses(BadField, value, is_field, court, LAGS, "ann", value)

    def test_several_wrong_arguments(self):
        court = court_of(FORK)
        due = [(1, BadLags, ((0, 1), (2, 4))), (1, WrongLags, whole(1, 0), None), (2, NoPlayer, "a")]
        self.in_sequence(least_field, (court, LAGS, "ann"), *due)
        self.in_sequence(greatest_field, (court, LAGS, "ann"), *due)
        due.append((3, BadField, whole(0, 1, 3)))
        self.in_sequence(is_field, (court, LAGS, "ann", whole(0, 1, 3, 0)), *due)
        self.in_sequence(all_fields, (court, LAGS), *due[:2])
        due = ((1, BadField, list(whole(0, 1, 3, 0))), (2, BadSpot, ("at", "d")))
        self.in_sequence(field_on, (court, whole(0, 1, 3, 0), ("at", "a")), *due)

    def test_what_was_told_may_be_handed_in_again(self):
        court = court_of(changed(FORK, "delay ann bob 3", "delay ann bob 2"))
        fields = all_fields(court, LAGS)
        for field in fields:
            self.assertTrue(all(is_fraction(part) for part in field))
            self.same(field_on(court, field, ("at", "m")), field[1])
        self.assertIs(is_field(court, LAGS, "ann", fields[0]), True)
        self.assertEqual(Play(court, "play"), play_of(["play"], changed(FORK, "delay ann bob 3", "delay ann bob 2")))
        self.refuses(BadField, PLAY, is_field, court, LAGS, "ann", PLAY)
