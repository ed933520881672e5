"""What sections 14 and 15 promise for all courts, factors, offsets and watchers, tried with many."""

from fractions import Fraction

from nevertakenback.clocks import lags_of, led_back, measured, shows_lags_of
from nevertakenback.courts import Court, with_delay, with_length, with_stretch
from nevertakenback.errors import Ring
from nevertakenback.headroom import headroom, holds_by, least_slowing, shows_headroom, tight
from nevertakenback.rings import holds, is_right, needs
from nevertakenback.watchers import is_watcher_field, least_lag, watcher_field
from tests.lag_models import all_rings, need_table, needy_rings, ring_sum, softness, spread, sum_along, told, told_row, worth
from tests.samples import Case, any_court_lines, any_soft_court, court_of, seed
from tests.test_for_all_sights import any_part, right_lags


def any_court(chance):
    """Some court: soft ones, such as give nothing, and such as have few delays or none."""
    if chance.random() < 0.7:
        court = any_soft_court(chance, 5)
    else:
        court = court_of(any_court_lines(chance, 6, 9))
    if chance.random() < 0.15:
        lines = [line for line in court.text.split("\n") if not line.startswith("delay") or chance.random() < 0.1]
        court = court_of(lines)
    return court


def delay_table(court):
    return {(one, other): Fraction(ticks) for one, other, ticks in court.delays}


def scaled_table(court, factor):
    """The needs of all two unlike players, if all delays are factor times as long."""
    delays = delay_table(court)
    return {pair: need - delays[pair] + factor * delays[pair] for pair, need in need_table(court).items()}


def bounds_of(court):
    """For each ring with delays by which factor its need is just 0."""
    delays, ways = delay_table(court), scaled_table(court, 0)
    return {ring: -ring_sum(ways, ring) / ring_sum(delays, ring) for ring in all_rings(court) if ring_sum(delays, ring) > 0}


def least_fit(court, table):
    """The least row from 0 on that fits a table of needs, by which no ring needs more than 0."""
    names = [name for name, _ in court.players]
    rows = [ring for ring in all_rings(court)]
    return [max([Fraction(0)] + [sum_along(table, row) for row in rows if row[0] == name]) for name in names]


def told_table(table):
    return tuple((one, other, told(need)) for (one, other), need in table.items())


class Headroom(Case):
    def courts(self, number, count):
        chance = seed(number)
        for _ in range(count):
            yield chance, any_court(chance)

    def test_the_least_that_a_ring_bears(self):
        kinds = []
        for _, court in self.courts(90, 200):
            bounds = bounds_of(court)
            value = headroom(court)
            kinds.append(value[0])
            if not bounds:
                self.same(value, ("any",))
            else:
                least = min(bounds.values())
                self.same(value[:2], ("factor", told(least)))
                self.assertEqual(bounds[value[2]], least)
            self.assertIs(shows_headroom(court, value), True)
            self.same(headroom(Court(court.text)), value)
        self.assertGreater(min(kinds.count("any"), kinds.count("factor")), 15)

    def test_each_ring_is_shown_or_not(self):
        shown = []
        for chance, court in self.courts(91, 100):
            bounds = bounds_of(court)
            for ring in chance.sample(all_rings(court), min(30, len(all_rings(court)))):
                for factor in [bounds.get(ring, Fraction(1)), min(bounds.values(), default=Fraction(1))]:
                    right = bool(bounds) and bounds.get(ring) == factor == min(bounds.values())
                    self.assertIs(shows_headroom(court, ("factor", told(factor), ring)), right)
                    shown.append(right)
            self.assertIs(shows_headroom(court, ("any",)), not bounds)
        self.assertGreater(min(shown.count(True), shown.count(False)), 50)

    def test_holds_by_tells_lags_exactly_up_to_it(self):
        kinds = []
        for chance, court in self.courts(92, 150):
            value = headroom(court)
            bound = Fraction(1) if value == ("any",) else worth(value[1])
            near = [bound, bound + Fraction(1, 10 ** 6), max(Fraction(0), bound - Fraction(1, 10 ** 6)), Fraction(0), Fraction(1)]
            for factor in near + [any_part(chance)]:
                table = scaled_table(court, factor)
                kind, found = holds_by(court, told(factor))
                kinds.append(kind)
                self.same(kind, "lags" if value == ("any",) or factor <= bound else "ring")
                if kind == "lags":
                    self.same(found, told_row(least_fit(court, table)))
                else:
                    self.assertGreater(ring_sum(table, found), 0)
            self.same(holds_by(court, (1, 1)), holds(court))
        self.assertGreater(min(kinds.count("lags"), kinds.count("ring")), 100)

    def test_a_court_has_lags_exactly_if_it_is_1_or_more(self):
        for _, court in self.courts(93, 150):
            value = headroom(court)
            self.same(holds(court)[0] == "lags", value == ("any",) or worth(value[1]) >= 1)

    def test_longer_ways_and_more_stretch_never_make_it_less(self):
        for chance, court in self.courts(94, 120):
            one, other, length = chance.choice(court.ways)
            p, q = court.stretch
            for more in (
                with_length(court, one, other, length + chance.randint(1, 20)),
                with_stretch(court, told(worth(p) * Fraction(2, 3)), q), with_stretch(court, p, told(min(99, worth(q) + Fraction(1, 3)))),
            ):
                before, behind = headroom(court), headroom(more)
                self.assertEqual(before == ("any",), behind == ("any",))
                if before != ("any",):
                    self.assertLessEqual(worth(before[1]), worth(behind[1]))

    def test_tight_are_those_of_rings_that_need_just_0(self):
        counts = []
        for _, court in self.courts(95, 200):
            if needy_rings(court):
                self.refuses(Ring, holds(court)[1], tight, court)
                continue
            table = need_table(court)
            pairs = set()
            for ring in all_rings(court):
                if ring_sum(table, ring) == 0:
                    pairs |= set(zip(ring, ring[1:] + ring[:1]))
            found = tight(court)
            self.same(found, tuple(row[:2] for row in needs(court) if row[:2] in pairs))
            counts.append(len(found))
            for one, other, ticks in court.delays:
                more = {pair: need + (Fraction(1, 10 ** 6) if pair == (one, other) else 0) for pair, need in table.items()}
                self.same(lags_of(court, told_table(more))[0], "ring" if (one, other) in found else "lags")
                if (one, other) in found and ticks < 99:
                    self.same(holds(with_delay(court, one, other, ticks + 1))[0], "ring")
        self.assertGreater(min(counts.count(0), len(counts) - counts.count(0)), 10)

    def test_least_slowing(self):
        found = []
        for _, court in self.courts(96, 200):
            times = least_slowing(court)
            found.append(times)
            bounds = bounds_of(court)
            if times is None:
                self.assertEqual(min(bounds.values()), 0)
                continue
            least = min(bounds.values(), default=Fraction(1))
            self.assertGreaterEqual(least * times, 1)
            self.assertTrue(times == 1 or least * (times - 1) < 1)
            if all(length * times <= 99 for _, _, length in court.ways):
                self.same(holds(self.slowed(court, times))[0], "lags")
                self.assertTrue(times == 1 or holds(self.slowed(court, times - 1))[0] == "ring")
        self.assertGreater(min(found.count(None), found.count(1), len([times for times in found if times and times > 1])), 15)

    def slowed(self, court, times):
        for one, other, length in court.ways:
            court = with_length(court, one, other, length * times)
        return court


class Clocks(Case):
    def offsets(self, chance, court):
        return tuple(told(Fraction(chance.randint(-30, 30), chance.choice((1, 2, 3)))) for _ in court.players)

    def test_rings_of_measured_needs_add_up_as_rings_of_needs_do(self):
        chance = seed(100)
        for _ in range(100):
            court = any_court(chance)
            offsets = self.offsets(chance, court)
            rows = measured(court, offsets)
            ahead = dict(zip([name for name, _ in court.players], [worth(offset) for offset in offsets]))
            table, clocks = need_table(court), {row[:2]: worth(row[2]) for row in rows}
            self.same([row[:2] for row in rows], [row[:2] for row in needs(court)])
            for one, other in table:
                self.assertEqual(clocks[one, other], table[one, other] + ahead[one] - ahead[other])
            for ring in chance.sample(all_rings(court), min(20, len(all_rings(court)))):
                self.assertEqual(ring_sum(clocks, ring), ring_sum(table, ring))

    def test_measured_needs_have_lags_exactly_if_the_needs_have(self):
        chance = seed(101)
        kinds = []
        for _ in range(250):
            court = any_court(chance)
            offsets = self.offsets(chance, court)
            rows = measured(court, offsets)
            kind, found = lags_of(court, rows)
            kinds.append(kind)
            self.same(kind, holds(court)[0])
            self.assertIs(shows_lags_of(court, rows, (kind, found)), True)
            if kind == "ring":
                self.assertGreater(ring_sum(need_table(court), found), 0)
                continue
            clocks = {row[:2]: worth(row[2]) for row in rows}
            self.same(found, told_row(least_fit(court, clocks)))
            back = led_back(court, found, offsets)
            self.assertIs(is_right(court, back), True)
            differences = [worth(lag) - worth(offset) - worth(late) for lag, offset, late in zip(found, offsets, back)]
            self.assertEqual(len(set(differences)), 1)
            self.assertTrue(differences[0] == 0 or differences[0] < 0 and min(map(worth, back)) == 0)
        self.assertGreater(min(kinds.count("lags"), kinds.count("ring")), 30)

    def test_lags_of_any_needs(self):
        chance = seed(102)
        kinds = []
        for _ in range(250):
            court = any_court(chance)
            least = chance.choice((-9, -4, -2))
            table = {pair: Fraction(chance.randint(least, 3), chance.choice((1, 2))) for pair in need_table(court)}
            rings = [ring for ring in all_rings(court) if ring_sum(table, ring) > 0]
            kind, found = lags_of(court, told_table(table))
            kinds.append(kind)
            if rings:
                self.same(kind, "ring")
                self.assertIn(found, rings)
            else:
                self.same((kind, found), ("lags", told_row(least_fit(court, table))))
            for ring in chance.sample(all_rings(court), min(10, len(all_rings(court)))):
                self.assertIs(shows_lags_of(court, told_table(table), ("ring", ring)), ring in rings)
        self.assertGreater(min(kinds.count("lags"), kinds.count("ring")), 30)


class Watchers(Case):
    def watchers(self, number, count):
        chance = seed(number)
        while count:
            court = any_soft_court(chance, 7)
            lags = right_lags(chance, court)
            if lags is not None:
                count -= 1
                delays = tuple(chance.choice((0, 1, 2, 5, 11, 99)) for _ in court.players)
                bounds = {place: Fraction(0) for place in court.places}
                for (_, room), lag, ticks in zip(court.players, lags, delays):
                    bounds.update({place: worth(lag) + ticks for place in room})
                yield chance, court, lags, delays, bounds

    def test_the_least_field(self):
        for chance, court, lags, delays, bounds in self.watchers(110, 150):
            least = spread(court, bounds, -1)
            self.same(watcher_field(court, lags, delays), told_row(least))
            self.assertIs(is_watcher_field(court, lags, delays, told_row(least)), True)
            place = chance.choice(court.places)
            self.same(least_lag(court, lags, delays, place), told(least[court.places.index(place)]))

    def test_any_fields(self):
        found = []
        for chance, court, lags, delays, bounds in self.watchers(111, 250):
            least = spread(court, bounds, -1)
            field = [late + chance.choice((0, 0, 0, Fraction(1, 3), 1)) for late in least]
            for _ in range(chance.choice((0, 0, 1))):
                at = chance.randrange(len(field))
                field[at] = max(Fraction(0), field[at] - Fraction(1, 10 ** 6))
            late = dict(zip(court.places, field))
            right = all(abs(late[one] - late[other]) <= softness(court) * length for one, other, length in court.ways)
            right = right and all(late[place] >= bounds[place] for place in court.places)
            self.assertIs(is_watcher_field(court, lags, delays, told_row(field)), right)
            found.append(right)
            if right:
                self.assertTrue(all(one >= other for one, other in zip(field, least)))
        self.assertGreater(min(found.count(True), found.count(False)), 40)

    def test_the_same_more_everywhere_is_one_too(self):
        for chance, court, lags, delays, bounds in self.watchers(112, 60):
            more = any_part(chance)
            field = told_row([late + more for late in spread(court, bounds, -1)])
            self.assertIs(is_watcher_field(court, lags, delays, field), True)
