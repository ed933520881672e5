"""What sections 12 and 13 promise for all courts, plays, letters and deeds, tried with many."""

import math
from fractions import Fraction

from nevertakenback.engines import Engine
from nevertakenback.errors import NotSeen, TakenError
from nevertakenback.fields import greatest_field, is_field, least_field
from nevertakenback.halls import Hall
from nevertakenback.letters import due_by, letters_of
from nevertakenback.plays import Play, last_tick, write_strike
from nevertakenback.rings import is_right
from nevertakenback.sights import sight
from tests.hall_models import SlowEngine, SlowHall, slow_sight, standing, told_fields
from tests.lag_models import needy_rings, told, told_row, worth
from tests.models import slow_play
from tests.samples import Case, any_course, any_play, any_soft_court, seed
from tests.test_for_all_sights import any_part, right_lags


def any_right_field(chance, court, lags, player):
    """Some right field: least, greatest, or what lies between."""
    least, most = least_field(court, lags, player), greatest_field(court, lags, player)
    part = chance.choice((0, 0, 1, Fraction(1, 2), Fraction(1, 3)))
    return told_row([worth(one) + part * (worth(other) - worth(one)) for one, other in zip(least, most)])


def any_right_court(chance, most_places=5):
    """Some court that has right rows of lags, one of them, and right fields for it."""
    while True:
        court = any_soft_court(chance, most_places)
        lags = right_lags(chance, court)
        if lags is not None:
            return court, lags, tuple(any_right_field(chance, court, lags, name) for name, _ in court.players)


class World:
    """Players with engines that strike what they see, and letters that come by their times, some sooner, some twice."""

    def __init__(self, chance, court, lags, fields):
        self.chance, self.court, self.lags, self.clock = chance, court, lags, Fraction(0)
        self.names = [name for name, _ in court.players]
        self.fields = dict(zip(self.names, fields))
        self.engines = {name: Engine(court, lags, fields, name) for name in self.names}
        self.letters = []
        self.waiting = []

    def go_on(self):
        """Goes on to a time at which somebody may strike, and lets them do it if they can."""
        at = self.chance.randrange(len(self.names))
        player, lag = self.names[at], worth(self.lags[at])
        tick = max(0, math.ceil(self.clock - lag)) + self.chance.choice((0, 0, 0, 1, 2, 5))
        self.clock = tick + lag
        self.deliver()
        engine, room = self.engines[player], dict(self.court.players)[player]
        ready = [(ball, spot[1]) for ball, spot in engine.shows(told(self.clock)) if spot[0] == "at" and spot[1] in room]
        if ready:
            ball, place = self.chance.choice(ready)
            try:
                letter = engine.strike(told(self.clock), ball, any_course(self.chance, self.court, place))
            except NotSeen:
                return
            self.letters.append(letter)
            self.waiting += [(name, letter) for name in self.names if name != player]
            self.deliver()

    def deliver(self):
        self.chance.shuffle(self.waiting)
        for name, letter in list(self.waiting):
            due = self.due(name, letter) <= self.clock
            if due or self.chance.random() < 0.15:
                self.engines[name].hear(letter)
            if due and self.chance.random() < 0.8:
                self.waiting.remove((name, letter))

    def due(self, player, letter):
        return worth(due_by(self.court, self.lags, player, letter))

    def strikes(self):
        return sorted(letter[3] for letter in self.letters)

    def due_strikes(self, player):
        return tuple(sorted(letter[3] for letter in self.letters if self.due(player, letter) <= self.clock))


class Engines(Case):
    def test_nothing_that_was_shown_is_altered_and_all_tell_the_same_play(self):
        chance = seed(80)
        struck = 0
        for _ in range(120):
            court, lags, fields = any_right_court(chance, chance.choice((3, 5, 6)))
            world = World(chance, court, lags, fields)
            shown = {}
            for _ in range(chance.choice((4, 8, 16))):
                world.go_on()
                for name, engine in world.engines.items():
                    time = told(max(Fraction(0), world.clock - Fraction(chance.randint(0, 60), chance.choice((1, 2, 3, 5)))))
                    for asked in (time, told(world.clock)):
                        shown.setdefault((name, asked), engine.shows(asked))
                    self.same(engine.story(told(world.clock)), world.due_strikes(name))
                for (name, asked), spots in shown.items():
                    self.same(world.engines[name].shows(asked), spots)
            whole = Play(court, "\n".join(["play"] + [write_strike(strike) for strike in world.strikes()]))
            struck += len(whole.strikes)
            for (name, asked), spots in shown.items():
                self.same(sight(whole, world.fields[name], asked), spots)
            for letter in world.letters:
                for name, engine in world.engines.items():
                    engine.hear(letter)
            for engine in world.engines.values():
                self.assertEqual(engine.play, whole)
            self.same(tuple(sorted(world.letters)), tuple(sorted(letters_of(whole))))
        self.assertGreater(struck, 400)

    def test_what_was_shown_is_what_a_slow_model_tells(self):
        chance = seed(81)
        for _ in range(40):
            court, lags, fields = any_right_court(chance, 5)
            world = World(chance, court, lags, fields)
            for _ in range(8):
                world.go_on()
            play = slow_play(court, world.strikes())
            for name, engine in world.engines.items():
                field = dict(zip(court.places, [worth(late) for late in world.fields[name]]))
                for _ in range(4):
                    time = world.clock * Fraction(chance.randint(0, 12), 12)
                    self.same(engine.shows(told(time)), slow_sight(play, field, time))

    def test_fields_that_are_tried_are_right_ones(self):
        chance = seed(82)
        for _ in range(60):
            court, lags, fields = any_right_court(chance, 6)
            self.assertIs(is_right(court, lags), True)
            for (name, _), field in zip(court.players, fields):
                self.assertIs(is_field(court, lags, name, field), True)

    def deed(self, chance, engine, slow, letters):
        """What an engine and its model tell of some deed, also of one that no play would bring; ready to compare."""
        if letters and chance.random() < 0.6:
            kind, player, number, strike = chance.choice(letters)
            letter = (kind, player, max(0, number + chance.choice((0,) * 9 + (1, -1, 2))), strike)
            return self.told(engine.hear, letter), slow.hear(letter)
        ball, _ = chance.choice(engine.court.balls)
        time = max(Fraction(0), slow.lags[slow.player] + Fraction(chance.randint(-2, 40), chance.choice((1, 1, 1, 2))))
        course = any_course(chance, engine.court, chance.choice(slow.room))
        return self.told(engine.strike, told(time), ball, course), slow.strike(time, ball, course)

    def told(self, call, *args):
        """What a call tells, or the name of the error that it raises."""
        try:
            return call(*args)
        except TakenError as error:
            return type(error).__name__

    def test_whatever_is_heard_and_struck(self):
        chance = seed(83)
        answers = []
        for _ in range(90):
            court, lags, fields = any_right_court(chance, 4)
            name = chance.choice(court.players)[0]
            tables = [dict(zip(court.places, [worth(late) for late in field])) for field in fields]
            engine, slow = Engine(court, lags, fields, name), SlowEngine(court, [worth(lag) for lag in lags], tables, name)
            letters = letters_of(any_play(chance, court, 5)) + letters_of(any_play(chance, court, 2))
            for _ in range(10):
                before = engine.play, engine.letters
                one, other = self.deed(chance, engine, slow, letters)
                self.same(one, other)
                answers.append(one if isinstance(one, str) else "done" if one is None else "struck")
                if len(set(strike[:2] for strike in slow.ear.known())) < len(slow.ear.known()):
                    break
                if isinstance(one, str):
                    self.assertEqual((engine.play, engine.letters), before)
                self.same(engine.letters, slow.own())
                play = slow.play()
                self.same(engine.play.strikes, tuple(standing(court, slow.ear.known())))
                self.same(last_tick(engine.play), max([leg[3] for legs in play.legs.values() for leg in legs], default=0))
                for time in (Fraction(0), any_part(chance) * 5, Fraction(chance.randint(0, 90), 2)):
                    self.same(engine.shows(told(time)), slow_sight(play, slow.field, time))
                    self.same(engine.story(told(time)), slow.story(time))
        for kind in ("done", "struck", "Clash", "NotSeen"):
            self.assertGreater(answers.count(kind), 20, kind)


class Halls(Case):
    def deed(self, chance, slow):
        """Some deed that a slow hall could do, or nearly; its time is a fraction of Python's own."""
        if chance.random() < 0.4:
            lag = chance.choice(slow.row)
            time = slow.clock + Fraction(chance.choice((0, 1, 2, 5, -1)), chance.choice((1, 1, 2, 3)))
            return ("wait", time if chance.random() < 0.4 else max(Fraction(0), math.ceil(time - lag) + lag))
        if chance.random() < 0.3:
            return (chance.choice(("hand", "hand", "lose")), chance.randint(max(0, len(slow.letters) - 6), len(slow.letters) + 1))
        rooms = dict(slow.court.players)
        ready = [
            (name, ball, spot[1])
            for name in slow.names if (slow.clock - slow.engines[name].lags[name]).denominator == 1
            for ball, spot in slow.seen(name) if spot[0] == "at" and spot[1] in rooms[name]
        ]
        if not ready or chance.random() < 0.2:
            name = chance.choice(slow.names)
            ready = [(name, chance.choice(slow.court.balls)[0], chance.choice(rooms[name]))]
        name, ball, place = chance.choice(ready)
        return ("strike", name, ball, any_course(chance, slow.court, place))

    def test_whatever_is_done_check_tells_right(self):
        chance = seed(84)
        answers = []
        for _ in range(70):
            court = any_soft_court(chance, chance.choice((4, 6)))
            if needy_rings(court):
                continue
            hall, slow = Hall(court), SlowHall(court)
            self.same([hall.lags, hall.fields], [told_row(slow.row), told_fields(court, slow.fields)])
            for _ in range(24):
                deed = self.deed(chance, slow)
                wanted = slow.do(deed)
                told_deed = deed if deed[0] != "wait" else ("wait", told(deed[1]))
                before = (hall.clock, hall.play, hall.bag)
                try:
                    found = hall.do(told_deed)
                except TakenError as error:
                    found = type(error).__name__
                    self.assertEqual((hall.clock, hall.play, hall.bag), before)
                self.same(found, wanted)
                answers.append(wanted if isinstance(wanted, str) else deed[0])
                self.same([hall.clock, hall.bag, hall.check()], [told(slow.clock), slow.bag(), ("right",)])
                self.same(hall.play.strikes, tuple(slow.strikes))
                for name in slow.names:
                    self.same(hall.seen(name), slow.right(name))
        for kind in ("wait", "strike", "hand", "lose", "BadTime", "NotSeen", "NoLetter"):
            self.assertGreater(answers.count(kind), 15, kind)

    def test_what_is_seen_is_what_slow_engines_show(self):
        chance = seed(85)
        for _ in range(25):
            court = any_soft_court(chance, 5)
            if needy_rings(court):
                continue
            hall, slow = Hall(court), SlowHall(court)
            for _ in range(12):
                deed = self.deed(chance, slow)
                if not isinstance(slow.do(deed), str):
                    hall.do(deed if deed[0] != "wait" else ("wait", told(deed[1])))
                for name in slow.names:
                    self.same(hall.seen(name), slow.seen(name))
