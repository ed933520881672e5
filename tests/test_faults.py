"""Section 9: faults of lags and fields, and papers that show them."""

from nevertakenback.courts import with_stretch
from nevertakenback.errors import BadFields, BadLags, NoFault
from nevertakenback.faults import breaking, fault, shows_breaking
from nevertakenback.fields import all_fields
from nevertakenback.plays import Play, last_tick, strikers
from tests.lag_models import worth
from tests.samples import Case, changed, court_of, great_court_lines, text_of, wrong_rows, wrong_values
from tests.sight_models import is_paper
from tests.test_fields import FORK, LAGS, ROOMS, whole
from tests.test_rings import CALM, STAR, WHEEL

FINE = (whole(0, 1, 3, 0), whole(4, 2, 0, 0))

# What the example in section 9 offers: bob's room too soon, ann's own room late, a steep way from a to m.
SOON = (((0, 1), (1, 1), (5, 2), (0, 1)), FINE[1])
HOME = (whole(1, 1, 2, 0), FINE[1])
STEEP = (whole(0, 4, 3, 0), FINE[1])
TO_BOB = "play\nstrike 0 x m 4 b 4\nstrike 8 x m 4 b 4"
TO_ANN = "play\nstrike 0 x m 4 a 4\nstrike 8 x m 4 a 4"
ACROSS = "play\nstrike 0 x m 4 b 4"


def lines_of(*strikes):
    return text_of(("play",) + strikes)


def put(row, at, part):
    """The tuple with another part in this place."""
    return row[:at] + (part,) + row[at + 1:]


class Faults(Case):
    def test_none(self):
        self.assertIs(fault(court_of(FORK), LAGS, FINE), None)
        self.assertIs(fault(court_of(WHEEL), ((0, 1),) * 6, all_fields(court_of(WHEEL), ((0, 1),) * 6)), None)
        # As late as may be, and over no way by too much.
        self.assertIs(fault(court_of(FORK), LAGS, (whole(0, 2, 4, 5), whole(4, 2, 0, 3))), None)

    def test_each_kind(self):
        for fields, told in (
            (SOON, ("news", "ann", "bob", "b")), (HOME, ("home", "ann", "a")), (STEEP, ("steep", "ann", "a", "m")),
            ((FINE[0], whole(4, 2, 1, 0)), ("home", "bob", "b")), ((FINE[0], whole(3, 2, 0, 0)), ("news", "bob", "ann", "a")),
            ((FINE[0], whole(5, 2, 0, 0)), ("steep", "bob", "a", "m")), ((FINE[0], whole(4, 2, 0, 6)), ("steep", "bob", "m", "f")),
            ((FINE[1], FINE[0]), ("home", "ann", "a")), ((FINE[0], FINE[0]), ("home", "bob", "b")),
        ):
            self.same(fault(court_of(FORK), LAGS, fields), told)

    def test_by_players_then_by_kinds(self):
        court = court_of(FORK)
        # Of ann all three kinds, and of bob, too; then fewer and fewer of them.
        wrong = (whole(1, 9, 2, 0), whole(3, 9, 1, 0))
        self.same(fault(court, LAGS, wrong), ("home", "ann", "a"))
        self.same(fault(court, LAGS, (whole(0, 9, 2, 0), wrong[1])), ("news", "ann", "bob", "b"))
        self.same(fault(court, LAGS, (whole(0, 9, 3, 0), wrong[1])), ("steep", "ann", "a", "m"))
        self.same(fault(court, LAGS, (FINE[0], wrong[1])), ("home", "bob", "b"))
        self.same(fault(court, LAGS, (FINE[0], whole(3, 9, 0, 0))), ("news", "bob", "ann", "a"))
        self.same(fault(court, LAGS, (FINE[0], whole(4, 9, 0, 0))), ("steep", "bob", "a", "m"))

    def test_places_of_a_room_as_the_players_line_tells_them(self):
        lags = whole(0, 0)
        for room, first in (("a b", "a"), ("b a", "b")):
            court = court_of(changed(ROOMS, "player ann a b", f"player ann {room}"))
            self.same(fault(court, lags, (whole(1, 1, 2, 2, 1), whole(1, 1, 0, 0, 1))), ("home", "ann", first))
            self.same(fault(court, lags, (((0, 1), (0, 1), (2, 1), (2, 1), (1, 2)), whole(0, 0, 0, 0, 0))), ("news", "bob", "ann", first))
        for room, first in (("c d", "c"), ("d c", "d")):
            court = court_of(changed(ROOMS, "player bob c d", f"player bob {room}"))
            self.same(fault(court, lags, (whole(0, 0, 1, 1, 1), whole(1, 1, 0, 0, 1))), ("news", "ann", "bob", first))

    def test_others_in_the_players_sequence(self):
        court = court_of(CALM)
        lags = whole(1, 0, 2)
        fields = all_fields(court, lags)
        self.same(fault(court, lags, (whole(1, 1, 1, 1),) + fields[1:]), ("news", "ann", "bob", "b"))
        self.same(fault(court, lags, (whole(1, 1, 5, 1),) + fields[1:]), ("news", "ann", "cid", "c"))
        self.same(fault(court, lags, fields[:2] + (whole(0, 0, 0, 2),)), ("news", "cid", "ann", "a"))

    def test_news_that_comes_just_in_time(self):
        court = court_of(FORK)
        for late, told in (((3, 1), None), ((2999, 1000), ("news", "ann", "bob", "b")), ((31, 10), None)):
            self.same(fault(court, LAGS, (((0, 1), (3, 2), late, (0, 1)), FINE[1])), told)
        # With the lag 1/2 of bob the news of him comes later, too.
        lags = ((0, 1), (1, 2))
        self.same(fault(court, lags, (((0, 1), (3, 2), (7, 2), (0, 1)), put(FINE[1], 2, (1, 2)))), None)
        self.same(fault(court, lags, (((0, 1), (3, 2), (17, 5), (0, 1)), FINE[1])), ("news", "ann", "bob", "b"))

    def test_ways_that_are_just_not_too_steep(self):
        court = court_of(FORK)
        for late, told in (((3, 1), None), ((4, 1), None), ((4001, 1000), ("steep", "ann", "m", "f")), ((5, 1), ("steep", "ann", "m", "f"))):
            self.same(fault(court, LAGS, (put(FINE[0], 3, late), FINE[1])), told)
        # The way as it stands in the court, also if the field falls.
        turned = court_of(changed(FORK, "way a m 4", "way m a 4"))
        self.same(fault(turned, LAGS, STEEP), ("steep", "ann", "m", "a"))

    def test_lags_that_are_not_right(self):
        court = court_of(FORK)
        late = (whole(1, 1, 3, 0), whole(5, 3, 0, 0))
        self.same(fault(court, whole(1, 0), late), ("steep", "bob", "m", "b"))
        self.same(fault(court, whole(1, 0), FINE), ("home", "ann", "a"))
        for lags in (whole(1, 0, 2), whole(0, 0, 0), whole(9, 8, 7)):
            least = all_fields(court_of(CALM), whole(1, 0, 2))
            self.assertIsNot(fault(court_of(STAR), lags, least), None)

    def test_a_stretch_that_gives_nothing(self):
        court = with_stretch(court_of(FORK), (1, 1), (2, 1))
        self.same(fault(court, LAGS, FINE), ("steep", "ann", "a", "m"))
        self.same(fault(court, LAGS, (whole(0, 0, 0, 0),) * 2), ("news", "ann", "bob", "b"))


class Breaking(Case):
    def broken(self, lines, lags, fields):
        """A paper that the program tells is right, as it says and as the slow way to tell it says."""
        court = court_of(lines)
        paper = breaking(court, lags, fields)
        told = fault(court, lags, fields)
        self.same(paper[:len(told)], told)
        self.assertIs(shows_breaking(court, lags, fields, paper), True)
        rows = [[worth(late) for late in field] for field in fields]
        self.assertTrue(is_paper(court, [worth(lag) for lag in lags], rows, paper))
        return paper

    def test_each_kind(self):
        for fields in (SOON, HOME, STEEP, (FINE[0], whole(4, 2, 1, 0)), (FINE[0], whole(3, 2, 0, 0)), (FINE[0], whole(4, 2, 0, 6))):
            self.broken(FORK, LAGS, fields)
        self.broken(FORK, whole(1, 0), (whole(1, 1, 3, 0), whole(5, 3, 0, 0)))

    def test_how_many_parts_and_of_what_kinds(self):
        for fields, kinds in ((SOON, [str] * 5), (HOME, [str] * 4 + [int]), (STEEP, [str] * 6 + [int])):
            self.assertEqual([type(part) for part in self.broken(FORK, LAGS, fields)], kinds)

    def test_a_ball_that_lies_where_it_is_wanted(self):
        paper = self.broken(FORK, LAGS, HOME)
        play = Play(court_of(FORK), paper[3])
        self.assertEqual([strikers(play)[paper[4]], last_tick(play) > 0], [("ann", "a"), True])
        self.broken(changed(FORK, "ball x a", "ball x b"), LAGS, SOON)
        self.broken(changed(FORK, "ball x a", "ball x b"), LAGS, HOME)

    def test_steep_ways_up_and_down_with_either_end_of_the_stretch(self):
        lines = changed(FORK, "delay ann bob 3", "delay ann bob 0")
        for stretch in ("stretch 1/2 99", "stretch 1/99 3/2", "stretch 1/2 3/2", "stretch 1 99", "stretch 1/2 1", "stretch 1 1"):
            court_lines = changed(lines, "stretch 1/2 2", stretch)
            for field in (whole(0, 0, 0, 9), whole(0, 0, 9, 0), whole(0, 9, 0, 0), whole(0, 9, 9, 9), ((0, 1), (3, 1), (6, 1), (9, 1))):
                paper = self.broken(court_lines, LAGS, (field, FINE[1]))
                self.same(paper[0], "steep")

    def test_only_one_direction_is_seen_wrongly(self):
        # The field grows by 3 over the 4 ticks from a to m: 7 is less than 3 times 4, but 1 is less than half of it.
        court = court_of(changed(FORK, "stretch 1/2 2", "stretch 1/2 3"))
        fields = (((0, 1), (3, 1), (4, 1), (3, 1)), FINE[1])
        there, back = "play\nstrike 0 x m 4 b 4", "play\nstrike 0 x m 4 a 4"
        paper = ("steep", "ann", "a", "m")
        for text, number, told in ((there, 0, False), (back, 0, False), (back, 1, True)):
            self.assertIs(shows_breaking(court, LAGS, fields, paper + (text, "x", number)), told)
        # By c = Q - 1 it is the other one: 7 is more than 3/2 times 4, but 1 is not less than a fifth of it.
        court = court_of(changed(FORK, "stretch 1/2 2", "stretch 1/5 3/2"))
        for text, number, told in ((there, 0, True), (back, 0, True), (back, 1, False)):
            self.assertIs(shows_breaking(court, LAGS, fields, paper + (text, "x", number)), told)

    def test_a_way_that_is_steep_in_one_direction_alone(self):
        # Of the 4 ticks from a to m 9/4 are seen, which is not less than half of them; back it is 23/4, above 5.
        lines = changed(changed(FORK, "stretch 1/2 2", "stretch 1/2 5/4"), "delay ann bob 3", "delay ann bob 0")
        paper = self.broken(lines, ((7, 4), (0, 1)), (((7, 4), (0, 1), (0, 1), (0, 1)), FINE[1]))
        self.same([paper[:4], paper[5:]], [("steep", "ann", "a", "m"), ("x", 1)])

    def test_in_the_greatest_court(self):
        # All places in one row, so that balls have far to go.
        lines = ["court", "stretch 1/2 2"] + [f"place {place}" for place in "abcdefghijkl"]
        lines += [f"way {one} {other} 99" for one, other in zip("abcdefghijk", "bcdefghijkl")]
        lines += ["player ann a", "player bob b", "ball x a", "ball y b"]
        flat = ((0, 1),) * 12
        for at in range(2, 12):
            for late in (whole(60), whole(1000)):
                self.broken(lines, LAGS, (flat, flat[:at] + late * (12 - at)))
        lines[-4:] = ["player ann a", "player bob l", "ball x a"]
        self.broken(lines, LAGS, (flat, flat[:11] + whole(1)))
        self.broken(changed(lines, "player bob l", "player bob l", "delay ann bob 1"), LAGS, (flat, flat))
        lines = great_court_lines()
        self.broken(lines, ((0, 1),) * 6, (((0, 1),) * 12,) * 6)
        self.broken(lines, whole(0, 0, 0, 0, 0, 7), (whole(*[0] * 12),) * 6)

    def test_nothing_is_broken(self):
        self.refuses(NoFault, None, breaking, court_of(FORK), LAGS, FINE)
        for value in wrong_values() + [("news", "ann", "bob", "b", TO_BOB)]:
            self.refuses(NoFault, None, shows_breaking, court_of(FORK), LAGS, FINE, value)


class Papers(Case):
    def shown(self, told, fields, paper, lines=FORK, lags=LAGS):
        court = court_of(lines)
        self.assertIs(shows_breaking(court, lags, fields, paper), told)
        rows = [[worth(late) for late in field] for field in fields]
        self.assertEqual(is_paper(court, [worth(lag) for lag in lags], rows, paper), told)

    def test_news(self):
        paper = ("news", "ann", "bob", "b", TO_BOB)
        told = [
            (TO_BOB, True), ("play\nstrike 0 x m 4 b 9\nstrike 30 x m 5 a 4", True), (ACROSS, False), ("play", False),
            (TO_ANN, False), (lines_of("strike 0 x m 4 b 4", "strike 8 x m 4 b 4", "strike 16 x m 4 b 4"), True),
            (lines_of("strike 0 x m 4 b 4", "strike 8 x m 4 a 4", "strike 16 x m 4 b 4"), False),
            (lines_of("strike 0 x m 4 b 4 m 4 b 4", "strike 8 x m 5 b 4"), True),
            # This strike gives the ball just what is left of its course as it comes to b.
            (lines_of("strike 0 x m 4 b 4 m 4 b 4", "strike 8 x m 4 b 4"), False),
            (lines_of("strike 0 x m 4 b 4 m 4 b 5", "strike 8 x m 4 b 4"), True),
        ]
        for text, right in told:
            self.shown(right, SOON, put(paper, 4, text))

    def test_news_in_another_room(self):
        court = changed(FORK, "player bob b", "player bob b f")
        fields = (whole(0, 1, 3, 2), whole(4, 2, 0, 0))
        to_b, to_f = TO_BOB, lines_of("strike 0 x m 4 f 6", "strike 10 x m 6 f 6")
        self.shown(True, fields, ("news", "ann", "bob", "f", to_f), court)
        self.shown(False, fields, ("news", "ann", "bob", "f", to_b), court)
        self.shown(False, fields, ("news", "ann", "bob", "b", to_b), court)

    def test_home(self):
        paper = ("home", "ann", "a", TO_ANN, 1)
        for number, right in ((1, True), (0, False), (2, False), (-1, False), (True, False), (None, False), ("1", False), ((1,), False)):
            self.shown(right, HOME, put(paper, 4, number))
        told = [
            (TO_BOB, False), (ACROSS, False), ("play", False), (lines_of("strike 0 x m 4 a 4", "strike 9 x m 4 a 4"), False),
            (lines_of("strike 7 x m 5 a 99", "strike 111 x m 4 b 4"), True),
            # The ball comes by at a, and would go on.
            (lines_of("strike 0 x m 4 a 4 m 4 a 4", "strike 8 x m 5 b 4"), True),
            (lines_of("strike 0 x m 4 b 4", "strike 8 x m 4 a 4", "strike 16 x m 4 a 4"), False),
        ]
        for text, right in told:
            self.shown(right, HOME, put(paper, 3, text))
        self.shown(True, HOME, ("home", "ann", "a", told[-1][0], 2))

    def test_steep(self):
        paper = ("steep", "ann", "a", "m")
        back = lines_of("strike 0 x m 4 a 4")
        told = [
            # There it is seen for 8, which is not more than twice 4; back for 0.
            (ACROSS, "x", 0), (ACROSS, "x", 1), (back, "x", 0), (back, "x", 1), (back, "x", 2), (back, "x", -1),
            (back, "x", True), (back, "x", None), (back, "y", 1), (back, ("x",), 1), (back, None, 1), (back, "a", 1),
            (back, ["x"], 1), (lines_of("strike 0 x m 4 a 5"), "x", 1), (lines_of("strike 3 x m 9 a 4"), "x", 1),
            (lines_of("strike 3 x m 9 a 4"), "x", 0), ("play", "x", 0), (lines_of("strike 0 x m 4 b 4 m 9 f 9 m 6 a 4"), "x", 5),
        ]
        fields = (whole(0, 4, 4, 4), FINE[1])
        right = [(back, "x", 1), (lines_of("strike 3 x m 9 a 4"), "x", 1), told[-1]]
        self.same(fault(court_of(FORK), LAGS, fields), ("steep", "ann", "a", "m"))
        for row in told:
            self.shown(row in right and type(row[2]) is int, fields, paper + row)
        # As ann sees m 5 late, it is seen for 9 there, too.
        for row in told:
            seen = right + [(ACROSS, "x", 0), (back, "x", 0)]
            self.shown(row in seen and type(row[2]) is int, (whole(0, 5, 5, 5), FINE[1]), paper + row)

    def test_papers_that_are_not_right_in_one_part_alone(self):
        for fields, paper in (
            (SOON, ("news", "ann", "bob", "b", TO_BOB)), (HOME, ("home", "ann", "a", TO_ANN, 1)),
            (STEEP, ("steep", "ann", "a", "m", lines_of("strike 0 x m 4 a 4"), "x", 1)),
        ):
            self.shown(True, fields, paper)
            for at, part in enumerate(paper):
                others = ["news", "home", "steep", "ann", "bob", "a", "b", "m", "f", "x", "y", 0, 1, 2, False, True, (), ("x",)]
                others += [part + "\n", "play\n", "play ", "Play", ACROSS] if isinstance(part, str) else [part + 1, -part]
                for other in wrong_values() + others + [paper, list(paper), (part,), [part]]:
                    if type(other) is not type(part) or other != part:
                        self.shown(False, fields, put(paper, at, other))
                self.shown(False, fields, paper[:at])
                self.shown(False, fields, paper[:at] + paper[at + 1:])
            self.shown(False, fields, paper + (0,))
            self.shown(False, fields, list(paper))
            self.shown(False, fields, (paper,))

    def test_any_value(self):
        for fields in (SOON, HOME, STEEP):
            for value in wrong_values() + [fault(court_of(FORK), LAGS, fields), ("news",), ("steep", "ann"), "news"]:
                self.shown(False, fields, value)

    def test_a_paper_of_a_fault_that_is_not_the_first_one(self):
        wrong = (whole(0, 4, 2, 0), FINE[1])
        self.shown(True, wrong, ("news", "ann", "bob", "b", TO_BOB))
        self.shown(False, wrong, ("steep", "ann", "a", "m", ACROSS, "x", 0))


class Refused(Case):
    def calls(self):
        court = court_of(FORK)
        return [
            lambda lags, fields: fault(court, lags, fields), lambda lags, fields: breaking(court, lags, fields),
            lambda lags, fields: shows_breaking(court, lags, fields, ("news", "ann", "bob", "b", TO_BOB)),
        ]

    def test_what_are_no_lags(self):
        for call in self.calls():
            for value in wrong_rows(LAGS):
                self.refuses(BadLags, value, call, value, SOON)
                self.refuses(BadLags, value, call, value, value)

    def test_what_are_no_fields(self):
        wrong = [list(SOON), SOON[:1], SOON + SOON[:1], (), (SOON,), SOON[0], (SOON[0], list(SOON[1])), (SOON[0], None)]
        wrong += [(value, SOON[1]) for value in wrong_rows(SOON[0])] + [(SOON[0], value) for value in wrong_rows(SOON[1])]
        for call in self.calls():
            for value in wrong + wrong_values():
                self.refuses(BadFields, value, call, LAGS, value)

    def test_several_wrong_arguments(self):
        due = [(1, BadLags, LAGS + LAGS), (2, BadFields, SOON[1]), (2, NoFault, FINE, None)]
        court = court_of(FORK)
        self.in_sequence(fault, (court, LAGS, SOON), *due[:2])
        self.in_sequence(breaking, (court, LAGS, SOON), *due)
        self.in_sequence(shows_breaking, (court, LAGS, SOON, None), *due)
        self.refuses(BadFields, None, shows_breaking, court, whole(1, 0), None, None)
