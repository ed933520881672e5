"""Section 15: watchers, and how late they see each place."""

from nevertakenback.courts import with_stretch
from nevertakenback.errors import BadDelays, BadLags, NoPlace, WrongLags
from nevertakenback.watchers import is_watcher_field, least_lag, watcher_field
from tests.samples import Case, court_of, great_court_lines, wrong_rows, wrong_values
from tests.test_clocks import COURT
from tests.test_fields import ROOMS, whole
from tests.test_rings import CALM, WHEEL

LAGS = whole(1, 0)


def wrong_delays(row):
    """Values that are no tuple of as many integers from 0 to 99."""
    wrong = [value for value in wrong_values() if value != ()]
    parts = [-1, 100, True, False, None, "1", (1, 1), [1], 10 ** 11, (), {}, row]
    wrong += [(), row[:-1], row + row[:1], list(row), (row,)]
    for at in range(len(row)):
        wrong += [row[:at] + (part,) + row[at + 1:] for part in parts]
    return wrong


class Fields(Case):
    def test_the_greatest_over_all_players(self):
        court = court_of(COURT)
        self.same(watcher_field(court, LAGS, (5, 1)), whole(6, 4, 3))
        self.same(watcher_field(court, LAGS, (0, 9)), whole(7, 9, 8))
        self.same(watcher_field(court, LAGS, (0, 0)), whole(1, 0, 0))
        self.same(watcher_field(court, ((7, 2), (5, 2)), (1, 1)), ((9, 2), (7, 2), (5, 2)))

    def test_delays_of_0_and_of_99(self):
        court = court_of(COURT)
        self.same(watcher_field(court, LAGS, (99, 0)), whole(100, 98, 97))
        self.same(watcher_field(court, LAGS, (0, 99)), whole(97, 99, 98))
        self.same(watcher_field(court, LAGS, (99, 99)), whole(100, 99, 98))
        great = with_stretch(court_of([line for line in great_court_lines() if not line.startswith("delay")]), (1, 1), (1, 1))
        self.same(watcher_field(great, whole(0, 0, 0, 0, 0, 0), (99, 0, 0, 0, 0, 7)), whole(*[99] * 12))

    def test_rooms_of_several_places(self):
        court = court_of(ROOMS)
        # c is 1/2; ann has a and b, bob c and d; e is 1 from a and 3 from d.
        self.same(watcher_field(court, whole(0, 0), (4, 0)), ((4, 1), (4, 1), (2, 1), (2, 1), (7, 2)))
        self.same(watcher_field(court, whole(0, 0), (0, 4)), ((2, 1), (2, 1), (4, 1), (4, 1), (5, 2)))

    def test_three_and_six_players(self):
        self.same(watcher_field(court_of(CALM), whole(1, 0, 2), (3, 0, 7)), whole(6, 8, 6, 9))
        self.same(watcher_field(court_of(WHEEL), whole(0, 0, 0, 0, 0, 0), (0, 3, 0, 0, 0, 0)), whole(2, 3, 2, 1, 0, 1))

    def test_lags_that_are_not_the_least(self):
        court = court_of(COURT)
        self.same(watcher_field(court, whole(4, 3), (0, 0)), whole(4, 3, 2))


class IsField(Case):
    def test_just_the_least_one_and_below_it_at_one_place(self):
        court = court_of(COURT)
        least = ((6, 1), (4, 1), (3, 1))
        self.assertIs(is_watcher_field(court, LAGS, (5, 1), least), True)
        for at in range(3):
            below = least[:at] + ((1000 * least[at][0] - 1, 1000),) + least[at + 1:]
            self.assertIs(is_watcher_field(court, LAGS, (5, 1), below), False)

    def test_in_each_room_from_lag_and_delay_on(self):
        court = court_of(COURT)
        for field, right in (
            (whole(6, 4, 4), True), (whole(6, 6, 6), True), (whole(7, 7, 7), True), (whole(6, 8, 7), True), (whole(5, 5, 5), False),
            (whole(99, 97, 98), True), (((6, 1), (4, 1), (5, 1)), True), (((6, 1), (4, 1), (11, 2)), False),
            (((6, 1), (15, 4), (3, 1)), False), (whole(6, 9, 8), False), (whole(6, 4, 2), False),
        ):
            self.assertIs(is_watcher_field(court, LAGS, (5, 1), field), right)
        self.assertIs(is_watcher_field(court, LAGS, (0, 9), whole(7, 9, 8)), True)
        self.assertIs(is_watcher_field(court, LAGS, (0, 9), ((7, 1), (35, 4), (8, 1))), False)

    def test_each_place_of_a_room(self):
        court = court_of(ROOMS)
        field = ((4, 1), (4, 1), (2, 1), (2, 1), (7, 2))
        self.assertIs(is_watcher_field(court, whole(0, 0), (4, 0), field), True)
        self.assertIs(is_watcher_field(court, whole(0, 0), (4, 0), ((4, 1), (7, 2), (2, 1), (2, 1), (7, 2))), False)

    def test_it_need_not_be_a_field_of_any_player(self):
        self.assertIs(is_watcher_field(court_of(COURT), LAGS, (0, 0), whole(50, 50, 50)), True)

    def test_any_value_that_is_no_field(self):
        court = court_of(COURT)
        least = ((6, 1), (4, 1), (3, 1))
        for value in wrong_rows(least):
            self.assertIs(is_watcher_field(court, LAGS, (5, 1), value), False)


class LeastLag(Case):
    def test_each_place_of_the_least_field(self):
        court = court_of(ROOMS)
        for delays in ((4, 0), (0, 4), (99, 0), (0, 0)):
            field = watcher_field(court, whole(0, 0), delays)
            self.same(tuple(least_lag(court, whole(0, 0), delays, place) for place in court.places), field)

    def test_who_is_no_place(self):
        court = court_of(COURT)
        for value in wrong_values() + ["d", "ann", "x", ("a",)]:
            self.refuses(NoPlace, value, least_lag, court, LAGS, (5, 1), value)


class Wrong(Case):
    def test_arguments(self):
        court = court_of(COURT)
        field = whole(6, 4, 4)
        calls = ((watcher_field, ()), (is_watcher_field, (field,)), (is_watcher_field, (None,)), (least_lag, ("c",)), (least_lag, ("d",)))
        for call, rest in calls:
            for value in wrong_rows(LAGS):
                self.refuses(BadLags, value, call, court, value, (5, 1), *rest)
            for lags in (whole(0, 0), whole(0, 3), ((1, 2), (0, 1))):
                self.refuses(WrongLags, None, call, court, lags, (5, 1), *rest)
                self.refuses(WrongLags, None, call, court, lags, None, *rest)
            for value in wrong_delays((5, 1)):
                self.refuses(BadDelays, value, call, court, LAGS, value, *rest)

    def test_the_error_that_stands_first(self):
        court = court_of(COURT)
        due = ((1, BadLags, [LAGS]), (1, WrongLags, whole(0, 0), None), (2, BadDelays, (5, 1, 1)))
        self.in_sequence(watcher_field, (court, LAGS, (5, 1)), *due)
        self.in_sequence(is_watcher_field, (court, LAGS, (5, 1), ()), *due)
        self.in_sequence(least_lag, (court, LAGS, (5, 1), "a"), *due, (3, NoPlace, "d"))
