"""What sections 7 and 8 promise for all courts, rows of lags and players, tried with many."""

from nevertakenback.courts import Court, apart, give, with_delay
from nevertakenback.errors import Ring
from nevertakenback.fields import all_fields, field_on, greatest_field, is_field, least_field
from nevertakenback.lags import greatest_delay, least_above, noughts
from nevertakenback.rings import holds, is_right, needs, ring_need, shows_holds
from tests.lag_models import (
    all_rings, field_is_right, greatest_row_sum, least_and_greatest_field, least_row, need_table, needy_rings, ring_sum,
    row_is_right, softness, told, told_row, worth,
)
from tests.samples import Case, any_soft_court, seed


def any_row(chance, many):
    """Some row of fractions from 0 on."""
    return [told(worth((chance.choice((0, 0, 1, 2, 3, 5, 7)), chance.choice((1, 1, 2, 3))))) for _ in range(many)]


class Rings(Case):
    def courts(self, number, count):
        chance = seed(number)
        for _ in range(count):
            yield chance, any_soft_court(chance, chance.choice((3, 5, 7)))

    def test_needs_and_rings(self):
        for chance, court in self.courts(30, 60):
            table = need_table(court)
            self.assertEqual(worth(give(court)), softness(court))
            self.same(needs(court), tuple((one, other, told(table[one, other])) for one, other, _ in court.delays))
            rings = all_rings(court)
            for ring in chance.sample(rings, min(len(rings), 12)):
                self.same(ring_need(court, ring), told(ring_sum(table, ring)))
                self.same(ring_need(court, ring[1:] + ring[:1]), ring_need(court, ring))

    def test_a_right_row_or_a_ring_and_just_one_of_both(self):
        kinds = []
        for _, court in self.courts(31, 200):
            kind, value = holds(court)
            kinds.append(kind)
            needy = needy_rings(court)
            self.assertIs(shows_holds(court, (kind, value)), True)
            self.assertEqual(kind, "ring" if needy else "lags")
            if kind == "lags":
                self.assertIs(is_right(court, value), True)
                self.assertTrue(row_is_right(court, [worth(lag) for lag in value]))
                self.same(value, told_row(least_row(court, [0] * len(court.players))))
            else:
                self.assertIn(value, needy)
            for ring in all_rings(court):
                self.assertIs(shows_holds(court, ("ring", ring)), ring in needy)
            for shift in ((0, 1), (1, 2)):
                row = tuple(told(worth(shift) + worth(lag)) for lag in value) if kind == "lags" else (shift,) * len(court.players)
                self.assertIs(shows_holds(court, ("lags", row)), kind == "lags" and shift == (0, 1))
        self.assertGreater(min(kinds.count("lags"), kinds.count("ring")), 30)

    def test_rows_from_floors_on(self):
        for chance, court in self.courts(32, 150):
            floors = any_row(chance, len(court.players))
            if needy_rings(court):
                for call in (lambda: least_above(court, tuple(floors)), lambda: noughts(court)):
                    with self.assertRaises(Ring) as caught:
                        call()
                    self.assertIn(caught.exception.value, needy_rings(court))
                continue
            row = least_above(court, tuple(floors))
            self.same(row, told_row(least_row(court, [worth(floor) for floor in floors])))
            self.assertIs(is_right(court, row), True)
            self.same(least_above(court, row), row)
            least = holds(court)[1]
            self.same(noughts(court), tuple(name for (name, _), lag in zip(court.players, least) if lag == (0, 1)))
            for (name, _), at in zip(court.players, range(len(floors))):
                nought = least_above(court, ((0, 1),) * len(floors))[at] == (0, 1)
                self.assertEqual(name in noughts(court), nought)

    def test_is_right_as_section_7_tells_it(self):
        found = []
        for chance, court in self.courts(33, 300):
            row = any_row(chance, len(court.players))
            if chance.random() < 0.5 and not needy_rings(court):
                row = list(least_above(court, tuple(row)))
            right = row_is_right(court, [worth(lag) for lag in row])
            self.assertIs(is_right(court, tuple(row)), right)
            found.append(right)
            at = chance.randrange(len(row))
            row[at] = told(max(worth(row[at]) - worth((1, 7)), 0))
            self.assertIs(is_right(court, tuple(row)), row_is_right(court, [worth(lag) for lag in row]))
        self.assertGreater(min(found.count(True), found.count(False)), 50)

    def test_lesser_lags_and_greater_ones_by_the_same(self):
        for chance, court in self.courts(34, 120):
            if needy_rings(court):
                continue
            one, other = [least_above(court, tuple(any_row(chance, len(court.players)))) for _ in range(2)]
            lesser = tuple(told(min(worth(lag), worth(match))) for lag, match in zip(one, other))
            self.assertIs(is_right(court, lesser), True)
            more = tuple(told(worth(lag) + worth((5, 3))) for lag in one)
            self.assertIs(is_right(court, more), True)
            for lag, match in zip(holds(court)[1], lesser):
                self.assertLessEqual(worth(lag), worth(match))

    def test_greatest_delays(self):
        for chance, court in self.courts(35, 150):
            one, other, ticks = chance.choice(court.delays)
            if needy_rings(court):
                with self.assertRaises(Ring) as caught:
                    greatest_delay(court, one, other)
                self.assertIn(caught.exception.value, needy_rings(court))
                continue
            most = greatest_delay(court, one, other)
            way = softness(court) * apart(court, one, other)
            self.same(most, int((way - greatest_row_sum(court, other, one)) // 1))
            self.assertGreaterEqual(most, ticks)
            if most < 99:
                self.assertEqual(holds(with_delay(court, one, other, most))[0], "lags")
                self.assertEqual(holds(with_delay(court, one, other, most + 1))[0], "ring")

    def test_equal_calls_return_equal_results(self):
        for _, court in self.courts(36, 60):
            again = Court(court.text)
            for _ in range(2):
                self.same(holds(court), holds(again))
                self.same(needs(court), needs(again))


class Fields(Case):
    def rows(self, number, count):
        """Courts with right rows of lags, mostly with more than they must be."""
        chance = seed(number)
        found = 0
        while found < count:
            court = any_soft_court(chance, chance.choice((3, 5, 7, 10)))
            if not needy_rings(court):
                found += 1
                yield chance, court, least_above(court, tuple(any_row(chance, len(court.players))))

    def test_least_and_greatest_fields(self):
        for _, court, lags in self.rows(40, 80):
            row = [worth(lag) for lag in lags]
            for name, _ in court.players:
                least, most = least_and_greatest_field(court, row, name)
                self.same(least_field(court, lags, name), told_row(least))
                self.same(greatest_field(court, lags, name), told_row(most))
                for field in (least, most):
                    self.assertIs(is_field(court, lags, name, told_row(field)), True)
                    self.assertTrue(field_is_right(court, row, name, field))
                for late, later in zip(least, most):
                    self.assertLessEqual(late, later)
            self.same(all_fields(court, lags), tuple(least_field(court, lags, name) for name, _ in court.players))

    def between(self, chance, court, lags, name):
        """Some right field: somewhere from the least one on, and as the ways then need it."""
        least, most = least_and_greatest_field(court, [worth(lag) for lag in lags], name)
        field = [chance.choice((late, late, later, (late + later) / 2)) for late, later in zip(least, most)]
        late = dict(zip(court.places, field))
        for _ in court.places:
            for one, other, length in court.ways:
                for start, end in ((one, other), (other, one)):
                    late[end] = max(late[end], late[start] - softness(court) * length)
        return [late[place] for place in court.places]

    def test_greatest_least_and_mean_of_right_fields(self):
        for chance, court, lags in self.rows(41, 60):
            name = chance.choice(court.players)[0]
            one, other = [self.between(chance, court, lags, name) for _ in range(2)]
            for field in (
                one, other, [max(pair) for pair in zip(one, other)], [min(pair) for pair in zip(one, other)],
                [sum(pair) / 2 for pair in zip(one, other)],
            ):
                self.assertIs(is_field(court, lags, name, told_row(field)), True)

    def test_is_field_as_section_8_tells_it(self):
        found = []
        for chance, court, lags in self.rows(42, 150):
            row = [worth(lag) for lag in lags]
            for name, _ in court.players:
                field = self.between(chance, court, lags, name)
                at = chance.randrange(len(field))
                field[at] = max(field[at] + chance.choice((0, worth((1, 9)), worth((-1, 9)), 1, -1)), 0 * worth((1, 1)))
                right = field_is_right(court, row, name, field)
                self.assertIs(is_field(court, lags, name, told_row(field)), right)
                found.append(right)
        self.assertGreater(min(found.count(True), found.count(False)), 60)

    def test_a_right_field_lies_between_the_least_and_the_greatest_one(self):
        for chance, court, lags in self.rows(43, 60):
            for name, _ in court.players:
                field = self.between(chance, court, lags, name)
                for low, late, high in zip(least_field(court, lags, name), field, greatest_field(court, lags, name)):
                    self.assertLessEqual(worth(low), late)
                    self.assertLessEqual(late, worth(high))

    def test_for_a_row_that_is_not_right_some_player_has_none(self):
        wrong = 0
        chance = seed(44)
        for _ in range(200):
            court = any_soft_court(chance, chance.choice((3, 5)))
            row = [worth(lag) for lag in any_row(chance, len(court.players))]
            if row_is_right(court, row):
                continue
            wrong += 1
            # No field is right if the least one that keeps to the bounds and the ways is not.
            least = [least_and_greatest_field(court, row, name)[0] for name, _ in court.players]
            right = [field_is_right(court, row, name, field) for (name, _), field in zip(court.players, least)]
            self.assertIn(False, right)
        self.assertGreater(wrong, 50)

    def test_on_a_way_between_its_ends_in_proportion(self):
        chance = seed(45)
        for _ in range(100):
            court = any_soft_court(chance, 6)
            field = any_row(chance, len(court.places))
            late = {place: worth(value) for place, value in zip(court.places, field)}
            one, other, _ = chance.choice(court.ways)
            bottom = chance.randint(2, 9)
            part = worth((chance.randint(1, bottom - 1), bottom))
            value = late[one] + part * (late[other] - late[one])
            self.same(field_on(court, tuple(field), ("on", one, other, told(part))), told(value))
            self.same(field_on(court, tuple(field), ("on", other, one, told(1 - part))), told(value))
            self.same(field_on(court, tuple(field), ("at", one)), told(late[one]))
