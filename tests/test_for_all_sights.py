"""What sections 9, 10 and 11 promise for all courts, plays, lags, fields and letters, tried with many."""

from fractions import Fraction

from nevertakenback.courts import Court
from nevertakenback.errors import Clash, NoFault, Steep
from nevertakenback.faults import breaking, fault, shows_breaking
from nevertakenback.fields import all_fields, greatest_field, is_field, least_field
from nevertakenback.lags import least_above
from nevertakenback.letters import Ear, due_by, letters_of
from nevertakenback.plays import Play, last_tick, legs, strikers
from nevertakenback.rings import is_right
from nevertakenback.sights import seen_legs, sight, spot, stretches, tick_seen
from tests.lag_models import all_faults, needy_rings, softness, told, told_row, worth
from tests.sight_models import SlowEar, is_paper, late_at, spot_in, steep_way, told_spot
from tests.samples import Case, any_play, any_soft_court, seed


def any_part(chance):
    return Fraction(chance.choice((0, 0, 1, 2, 3, 5, 8)), chance.choice((1, 1, 2, 3)))


def any_field(chance, court, slope):
    """Some field that changes over each way by at most slope times its length."""
    late = {place: any_part(chance) for place in court.places}
    for _ in court.places:
        for one, other, length in court.ways:
            for start, end in ((one, other), (other, one)):
                late[end] = min(late[end], late[start] + slope * length)
    return [late[place] for place in court.places]


def right_lags(chance, court):
    """Some right row of lags, None if the court has none."""
    if needy_rings(court):
        return None
    return least_above(court, tuple(told(any_part(chance)) for _ in court.players))


class Faults(Case):
    def offers(self, number, count):
        """Courts with lags and fields that are right, nearly right, or just any."""
        chance = seed(number)
        for _ in range(count):
            court = any_soft_court(chance, chance.choice((3, 5, 7)))
            lags = right_lags(chance, court)
            if lags is None or chance.random() < 0.2:
                lags = tuple(told(any_part(chance)) for _ in court.players)
            if is_right(court, lags):
                fields = [chance.choice((least_field, greatest_field))(court, lags, name) for name, _ in court.players]
            else:
                fields = [told_row(any_field(chance, court, softness(court))) for _ in court.players]
            for _ in range(chance.choice((0, 1, 1, 2, 5))):
                who, at = chance.randrange(len(fields)), chance.randrange(len(court.places))
                late = worth(fields[who][at]) + chance.choice((1, -1, Fraction(1, 7), Fraction(-1, 7), 20))
                fields[who] = fields[who][:at] + (told(max(late, 0)),) + fields[who][at + 1:]
            yield chance, court, lags, tuple(fields)

    def test_none_or_the_first_one_and_a_paper_of_it(self):
        kinds = []
        for _, court, lags, fields in self.offers(50, 400):
            row, table = [worth(lag) for lag in lags], [[worth(late) for late in field] for field in fields]
            faults = all_faults(court, row, table)
            self.same(fault(court, lags, fields), faults[0] if faults else None)
            right = is_right(court, lags)
            if right:
                right = all(is_field(court, lags, name, field) for (name, _), field in zip(court.players, fields))
            self.assertEqual(right, not faults)
            if not faults:
                self.refuses(NoFault, None, breaking, court, lags, fields)
                self.refuses(NoFault, None, shows_breaking, court, lags, fields, None)
                continue
            paper = breaking(court, lags, fields)
            self.same(paper[:len(faults[0])], faults[0])
            self.assertIs(shows_breaking(court, lags, fields, paper), True)
            self.assertTrue(is_paper(court, row, table, paper))
            self.same(breaking(Court(court.text), lags, fields), paper)
            kinds.append(faults[0][0])
        self.assertGreater(min(kinds.count(kind) for kind in ("home", "news", "steep")), 20)

    def test_papers_of_any_plays(self):
        shown = {}
        for chance, court, lags, fields in self.offers(51, 250):
            row, table = [worth(lag) for lag in lags], [[worth(late) for late in field] for field in fields]
            first = fault(court, lags, fields)
            if first is None:
                continue
            for _ in range(6):
                play = any_play(chance, court, 5)
                ball = chance.choice(court.balls)[0]
                for number in range(4):
                    parts = {"home": (play.text, number), "news": (play.text,), "steep": (play.text, ball, number)}
                    paper = first + parts[first[0]]
                    right = is_paper(court, row, table, paper)
                    self.assertIs(shows_breaking(court, lags, fields, paper), right)
                    shown.setdefault((first[0], right), []).append(paper)
        for kind in ("home", "news", "steep"):
            self.assertGreater(min(len(shown[kind, True]), len(shown[kind, False])), 10, kind)

    def test_a_steep_way_is_broken_whatever_the_stretch(self):
        chance = seed(52)
        broken = 0
        while broken < 120:
            court = any_soft_court(chance, 6)
            lags = ((0, 1),) * len(court.players)
            field = any_field(chance, court, Fraction(3, 2))
            for place in dict(court.players)[court.players[0][0]]:
                field[court.places.index(place)] = Fraction(0)
            fields = (told_row(field),) * len(court.players)
            first = fault(court, lags, fields)
            if first is not None and first[0] == "steep":
                broken += 1
                paper = breaking(court, lags, fields)
                self.assertTrue(is_paper(court, [worth(lag) for lag in lags], [field] * len(court.players), paper))
                play = Play(court, paper[4])
                part = worth(stretches(play, fields[0], paper[5])[paper[6]])
                p, q = [worth(end) for end in court.stretch]
                self.assertFalse(p <= part <= q)

    def test_if_a_ring_needs_too_much_there_is_a_fault_whatever_is_offered(self):
        chance = seed(53)
        needy = 0
        for _ in range(150):
            court = any_soft_court(chance, 5)
            if needy_rings(court):
                needy += 1
                lags = tuple(told(any_part(chance)) for _ in court.players)
                fields = tuple(told_row(any_field(chance, court, softness(court))) for _ in court.players)
                paper = breaking(court, lags, fields)
                self.assertIs(shows_breaking(court, lags, fields, paper), True)
        self.assertGreater(needy, 40)

    def test_what_is_right_has_no_fault(self):
        chance = seed(54)
        for _ in range(80):
            court = any_soft_court(chance, 6)
            lags = right_lags(chance, court)
            if lags is not None:
                self.assertIs(fault(court, lags, all_fields(court, lags)), None)
                self.assertIs(fault(court, lags, tuple(greatest_field(court, lags, name) for name, _ in court.players)), None)


class Sights(Case):
    def seen(self, number, count):
        """Plays, and fields that change softly enough, also by nearly a way's length."""
        chance = seed(number)
        for _ in range(count):
            court = any_soft_court(chance, chance.choice((3, 4, 6)), chance.choice((2, 9)))
            slope = Fraction(chance.choice((0, 30, 60, 99, 99)), 100)
            yield chance, any_play(chance, court), any_field(chance, court, slope)

    def any_ticks(self, chance, play):
        """Some ticks, also below 0 and between two, and all in which something begins or ends."""
        ticks = [Fraction(chance.randint(-4, 8 * last_tick(play) + 30), chance.choice((1, 2, 3, 7))) for _ in range(12)]
        rows = [leg[2:] for ball, _ in play.court.balls for leg in legs(play, ball)]
        return ticks + [Fraction(tick) for row in rows for tick in row]

    def test_what_is_there_is_seen_so_late_as_the_field_is_there(self):
        for chance, play, field in self.seen(60, 120):
            table = dict(zip(play.court.places, field))
            for ball, start in play.court.balls:
                rows = []
                for tick in self.any_ticks(chance, play):
                    place = spot_in(legs(play, ball), start, tick)
                    time = tick + late_at(table, place)
                    if time >= 0:
                        self.same(tick_seen(play, told_row(field), ball, told(time)), told(tick))
                        self.same(spot(play, told_row(field), ball, told(time)), told_spot(place))
                        rows.append((tick, time))
                # With the tick the time rises, and never stays or falls.
                rows = sorted(set(rows))
                for (tick, time), (later, behind) in zip(rows, rows[1:]):
                    self.assertLess(tick, later)
                    self.assertLess(time, behind)

    def test_at_any_time_the_tick_seen_is_one_at_which_it_is_there(self):
        for chance, play, field in self.seen(61, 100):
            table = dict(zip(play.court.places, field))
            for _ in range(15):
                time = Fraction(chance.randint(0, 6 * last_tick(play) + 40), chance.choice((1, 2, 5, 6)))
                seen = sight(play, told_row(field), told(time))
                self.same([row[0] for row in seen], [ball for ball, _ in play.court.balls])
                for (ball, start), (_, place) in zip(play.court.balls, seen):
                    tick = worth(tick_seen(play, told_row(field), ball, told(time)))
                    there = spot_in(legs(play, ball), start, tick)
                    self.same(place, told_spot(there))
                    self.same(place, spot(play, told_row(field), ball, told(time)))
                    self.assertEqual(tick + late_at(table, there), time)

    def test_flights_are_seen_from_tick_and_field_to_tick_and_field(self):
        for chance, play, field in self.seen(62, 100):
            table = dict(zip(play.court.places, field))
            for ball, _ in play.court.balls:
                rows = legs(play, ball)
                seen = tuple((one, other, told(leaves + table[one]), told(comes + table[other])) for one, other, leaves, comes in rows)
                self.same(seen_legs(play, told_row(field), ball), seen)
                parts = [(comes + table[other] - leaves - table[one]) / (comes - leaves) for one, other, leaves, comes in rows]
                self.same(stretches(play, told_row(field), ball), told_row(parts))

    def test_a_ball_goes_on_without_a_jump_and_never_back(self):
        for chance, play, field in self.seen(63, 60):
            ball, start = chance.choice(play.court.balls)
            seen = seen_legs(play, told_row(field), ball)
            for (_, place, _, comes), (one, _, leaves, _) in zip(seen, seen[1:]):
                self.assertEqual(place, one)
                self.assertLessEqual(worth(comes), worth(leaves))
            for one, other, leaves, comes in seen:
                parts = []
                for step in range(1, 8):
                    time = worth(leaves) + (worth(comes) - worth(leaves)) * Fraction(step, 8)
                    place = spot(play, told_row(field), ball, told(time))
                    self.same(place[:3], ("on", one, other))
                    parts.append(worth(place[3]))
                self.assertEqual(parts, [Fraction(step, 8) for step in range(1, 8)])
                self.same([spot(play, told_row(field), ball, time) for time in (leaves, comes)], [("at", one), ("at", other)])

    def test_with_right_lags_and_fields_from_p_to_q_times_as_long(self):
        chance = seed(64)
        flown = 0
        for _ in range(150):
            court = any_soft_court(chance, 5)
            lags = right_lags(chance, court)
            if lags is None:
                continue
            play = any_play(chance, court)
            p, q = [worth(end) for end in court.stretch]
            for name, _ in court.players:
                for field in (least_field(court, lags, name), greatest_field(court, lags, name)):
                    self.assertIs(steep_way(court, dict(zip(court.places, map(worth, field)))), None)
                    self.same(len(sight(play, field, (3, 1))), len(court.balls))
                    for ball, _ in court.balls:
                        for part in stretches(play, field, ball):
                            self.assertTrue(p <= worth(part) <= q)
                            flown += 1
        self.assertGreater(flown, 500)

    def test_the_first_way_that_is_too_steep(self):
        found = []
        chance = seed(65)
        for _ in range(200):
            court = any_soft_court(chance, 6, 4)
            field = any_field(chance, court, Fraction(chance.choice((99, 100, 101, 300)), 100))
            way = steep_way(court, dict(zip(court.places, field)))
            found.append(way is None)
            play = any_play(chance, court, 3)
            ball = court.balls[0][0]
            for call, args in ((spot, (ball, (1, 1))), (tick_seen, (ball, (1, 1))), (sight, ((1, 1),))):
                if way is None:
                    call(play, told_row(field), *args)
                else:
                    self.refuses(Steep, way, call, play, told_row(field), *args)
            self.same(len(seen_legs(play, told_row(field), ball)), len(stretches(play, told_row(field), ball)))
        self.assertGreater(min(found.count(True), found.count(False)), 40)

    def test_who_strikes_sees_the_ball_there_by_their_lag(self):
        chance = seed(66)
        for _ in range(80):
            court = any_soft_court(chance, 5)
            lags = right_lags(chance, court)
            if lags is None:
                continue
            play = any_play(chance, court)
            names = [name for name, _ in court.players]
            for (tick, ball, _), (player, place) in zip(play.strikes, strikers(play)):
                at = names.index(player)
                time = told(tick + worth(lags[at]))
                self.same(spot(play, all_fields(court, lags)[at], ball, time), ("at", place))


class Letters(Case):
    def plays(self, number, count):
        chance = seed(number)
        for _ in range(count):
            yield chance, any_play(chance, any_soft_court(chance, 5), 16)

    def test_whatever_letters_come_none_clashes(self):
        for chance, play in self.plays(70, 120):
            letters = letters_of(play)
            ear, slow = Ear(play.court, chance.choice(play.court.players)[0]), SlowEar(play.court)
            for _ in range(2 * len(letters)):
                letter = chance.choice(letters)
                self.assertIs(ear.hear(letter), None)
                slow.hear(letter)
                self.same(ear.known(), slow.known())
                for name, _ in play.court.players:
                    count = ear.heard(name)
                    self.same(count, slow.heard(name))
                    own = [letter[3] for letter in letters if letter[1] == name]
                    self.assertTrue(set(own[:count]) <= set(ear.known()))
                    self.assertFalse(set(own[count:]) & set(ear.known()))
            for letter in chance.sample(letters, len(letters)):
                ear.hear(letter)
            self.same(ear.known(), play.strikes)
            for letter in letters:
                ear.hear(letter)
            self.same(ear.known(), play.strikes)

    def test_numbers_count_the_strikes_of_each_player(self):
        for _, play in self.plays(71, 60):
            letters = letters_of(play)
            self.same(tuple(letter[3] for letter in letters), play.strikes)
            self.same(tuple(letter[1] for letter in letters), tuple(player for player, _ in strikers(play)))
            for at, letter in enumerate(letters):
                self.same(letter[2], len([other for other in letters[:at] if other[1] == letter[1]]))
                self.same(letter[0], "strike")

    def test_letters_of_two_plays_clash_as_section_11_tells(self):
        clashes = 0
        for chance, play in self.plays(72, 200):
            other = any_play(chance, play.court, 16)
            letters = list(letters_of(play) + letters_of(other))
            ear, slow = Ear(play.court, play.court.players[0][0]), SlowEar(play.court)
            for letter in chance.sample(letters, len(letters)):
                letter = letter[:2] + (max(letter[2] + chance.choice((0, 0, 0, 1, -1)), 0),) + letter[3:]
                before = ear.known()
                if slow.clashes(letter):
                    self.refuses(Clash, letter, ear.hear, letter)
                    self.same(ear.known(), before)
                    clashes += 1
                else:
                    ear.hear(letter)
                    slow.hear(letter)
                for name, _ in play.court.players:
                    self.same(ear.heard(name), slow.heard(name))
        self.assertGreater(clashes, 200)

    def test_a_letter_is_due_by_tick_lag_and_delay(self):
        for chance, play in self.plays(73, 60):
            court = play.court
            lags = tuple(told(any_part(chance)) for _ in court.players)
            late = dict(zip([name for name, _ in court.players], lags))
            delays = {(one, other): ticks for one, other, ticks in court.delays}
            for letter in letters_of(play):
                for name, _ in court.players:
                    time = letter[3][0] + worth(late[letter[1]]) + delays.get((name, letter[1]), 0)
                    self.same(due_by(court, lags, name, letter), told(time))
