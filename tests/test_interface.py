"""The interface: names, parameters, and the files in which they are defined."""

import inspect
import unittest

from nevertakenback import (
    clocks, cones, courts, desk, engines, faults, fields, halls, headroom, journals, lags, letters, plays, rings, scripts,
    sights, watchers,
)
from nevertakenback.courts import Court
from nevertakenback.plays import Play
from tests.samples import LINE, PLAY, TRIANGLE, court_of, play_of, text_of

PARAMETERS = {
    courts: {
        "Court": ["text"], "give": ["court"], "distance": ["court", "place", "other"],
        "shortest": ["court", "place", "other"], "owner": ["court", "place"], "apart": ["court", "player", "other"],
        "delay": ["court", "player", "other"], "with_delay": ["court", "player", "other", "ticks"],
        "with_length": ["court", "place", "other", "length"], "with_stretch": ["court", "p", "q"],
    },
    plays: {
        "Play": ["court", "text"], "where": ["play", "ball", "tick"], "legs": ["play", "ball"], "strikers": ["play"],
        "meetings": ["play"], "last_tick": ["play"], "with_strike": ["play", "strike"],
    },
    cones: {
        "cone": ["play", "place", "tick"], "balls_at": ["play", "place", "tick"], "kept": ["play", "numbers"],
        "seen_alike": ["one", "other", "place", "tick"], "first_unlike": ["one", "other"],
    },
    rings: {
        "needs": ["court"], "ring_need": ["court", "players"], "is_right": ["court", "lags"], "holds": ["court"],
        "shows_holds": ["court", "value"],
    },
    lags: {
        "least_above": ["court", "floors"], "noughts": ["court"], "greatest_delay": ["court", "player", "other"],
    },
    fields: {
        "least_field": ["court", "lags", "player"], "greatest_field": ["court", "lags", "player"],
        "is_field": ["court", "lags", "player", "field"], "all_fields": ["court", "lags"],
        "field_on": ["court", "field", "spot"],
    },
    sights: {
        "seen_legs": ["play", "field", "ball"], "stretches": ["play", "field", "ball"],
        "tick_seen": ["play", "field", "ball", "time"], "spot": ["play", "field", "ball", "time"],
        "sight": ["play", "field", "time"],
    },
    faults: {
        "fault": ["court", "lags", "fields"], "breaking": ["court", "lags", "fields"],
        "shows_breaking": ["court", "lags", "fields", "value"],
    },
    letters: {"letters_of": ["play"], "due_by": ["court", "lags", "player", "letter"], "Ear": ["court", "player"]},
    engines: {"Engine": ["court", "lags", "fields", "player"]},
    halls: {"Hall": ["court"]},
    headroom: {
        "headroom": ["court"], "shows_headroom": ["court", "value"], "holds_by": ["court", "factor"], "tight": ["court"],
        "least_slowing": ["court"],
    },
    clocks: {
        "measured": ["court", "offsets"], "lags_of": ["court", "table"], "shows_lags_of": ["court", "table", "value"],
        "led_back": ["court", "lags", "offsets"],
    },
    watchers: {
        "watcher_field": ["court", "lags", "delays"], "is_watcher_field": ["court", "lags", "delays", "field"],
        "least_lag": ["court", "lags", "delays", "place"],
    },
    scripts: {"played": ["text"]},
    desk: {"Desk": ["court"]},
    journals: {"journal": ["desk"], "read_journal": ["text"]},
}
METHODS = {
    letters.Ear: {"hear": ["self", "letter"], "heard": ["self", "player"], "known": ["self"]},
    engines.Engine: {
        "strike": ["self", "time", "ball", "course"], "hear": ["self", "letter"], "shows": ["self", "time"],
        "story": ["self", "time"],
    },
    halls.Hall: {"do": ["self", "deed"], "seen": ["self", "player"], "check": ["self"]},
    desk.Desk: {
        "say": ["self", "line"], "undo": ["self"], "redo": ["self"], "tried": ["self", "lines"], "copy": ["self"],
    },
}


class Interface(unittest.TestCase):
    def test_names_parameters_and_files(self):
        for module, rows in PARAMETERS.items():
            for name, parameters in rows.items():
                found = getattr(module, name)
                self.assertEqual(list(inspect.signature(found).parameters), parameters, name)
                self.assertEqual(found.__module__, module.__name__)
                self.assertEqual(found.__name__, name)

    def test_methods_are_defined_in_the_classes_themselves(self):
        for owner, rows in METHODS.items():
            for name, parameters in rows.items():
                self.assertEqual(list(inspect.signature(vars(owner)[name]).parameters), parameters, name)

    def test_equality_is_defined_in_the_classes_themselves(self):
        self.assertIn("__eq__", vars(Court))
        self.assertIn("__eq__", vars(Play))
        self.assertIn("__eq__", vars(desk.Desk))

    def test_attributes_are_set_when_the_object_is_created(self):
        for name in ("text", "stretch", "places", "ways", "players", "delays", "balls"):
            self.assertIn(name, vars(court_of(LINE)))
        for name in ("court", "text", "strikes"):
            self.assertIn(name, vars(play_of(PLAY, LINE)))
        court, row = court_of(LINE), ((1, 2), (0, 1))
        for name in ("court", "player", "letters", "play"):
            self.assertIn(name, vars(engines.Engine(court, row, fields.all_fields(court, row), "p")))
        for name in ("court", "lags", "fields", "clock", "play", "bag"):
            self.assertIn(name, vars(halls.Hall(court)))
        for name in ("court", "hall", "lines", "answers"):
            self.assertIn(name, vars(desk.Desk(court)))

    def test_all_arguments_by_name(self):
        court = Court(text=text_of(TRIANGLE))
        self.assertEqual(courts.give(court=court), (1, 2))
        self.assertEqual(courts.distance(court=court, other="c", place="a"), 6)
        self.assertEqual(courts.shortest(court=court, other="c", place="a"), ("a", "b", "c"))
        self.assertEqual(courts.owner(place="a", court=court), "ann")
        self.assertEqual(courts.apart(court=court, player="ann", other="bob"), 6)
        self.assertEqual(courts.delay(court=court, player="bob", other="ann"), 3)
        self.assertEqual(courts.with_delay(court=court, player="bob", other="ann", ticks=1).delays[1][2], 1)
        self.assertEqual(courts.with_length(court=court, place="a", other="b", length=9).ways[0], ("a", "b", 9))
        self.assertEqual(courts.with_stretch(court=court, p=(1, 1), q=(2, 1)).stretch, ((1, 1), (2, 1)))
        play = Play(text=text_of(PLAY), court=court_of(LINE))
        self.assertEqual(plays.where(tick=3, ball="x", play=play), ("at", "b"))
        self.assertEqual(plays.legs(ball="x", play=play)[0], ("a", "b", 0, 3))
        self.assertEqual(plays.strikers(play=play)[0], ("p", "a"))
        self.assertEqual(plays.meetings(play=play), ((3, "b", ("x", "y")),))
        self.assertEqual(plays.last_tick(play=play), 12)
        more = plays.with_strike(play=play, strike=(5, "x", (("b", 2), ("a", 2))))
        self.assertEqual(len(more.strikes), 4)

    def test_all_arguments_of_cones_by_name(self):
        play = play_of(PLAY, LINE)
        self.assertEqual(cones.cone(tick=5, place="a", play=play), (0, 1))
        self.assertEqual(cones.balls_at(tick=5, place="a", play=play), (("x", ()),))
        alone = cones.kept(numbers=(0,), play=play)
        self.assertEqual(cones.seen_alike(tick=5, place="a", other=alone, one=play), False)
        self.assertEqual(cones.first_unlike(other=alone, one=play), (0, "c"))

    def test_all_arguments_of_rings_and_lags_by_name(self):
        court = court_of(LINE)
        told, row = (("p", "q", (1, 2)), ("q", "p", (-3, 2))), ((1, 2), (0, 1))
        self.assertEqual([rings.needs(court=court), rings.ring_need(players=("p", "q"), court=court)], [told, (-1, 1)])
        self.assertEqual([rings.is_right(lags=row, court=court), rings.holds(court=court)], [True, ("lags", row)])
        self.assertEqual(rings.shows_holds(value=("lags", row), court=court), True)
        self.assertEqual([lags.least_above(floors=row, court=court), lags.noughts(court=court)], [row, ("q",)])
        self.assertEqual(lags.greatest_delay(other="q", player="p", court=court), 4)

    def test_all_arguments_of_fields_by_name(self):
        court, row = court_of(LINE), ((1, 2), (0, 1))
        least = ((1, 2), (3, 2), (3, 1))
        self.assertEqual(fields.least_field(player="p", lags=row, court=court), least)
        self.assertEqual(fields.greatest_field(player="p", lags=row, court=court), least)
        self.assertEqual(fields.is_field(field=least, player="p", lags=row, court=court), True)
        self.assertEqual(fields.all_fields(lags=row, court=court)[0], least)
        self.assertEqual(fields.field_on(spot=("at", "b"), field=least, court=court), (3, 2))

    def test_all_arguments_of_sights_by_name(self):
        play, field = play_of(PLAY, LINE), ((1, 2), (3, 2), (3, 1))
        self.assertEqual(sights.seen_legs(ball="x", field=field, play=play)[0], ("a", "b", (1, 2), (9, 2)))
        self.assertEqual(sights.stretches(ball="x", field=field, play=play), ((4, 3), (1, 2)))
        self.assertEqual(sights.tick_seen(time=(5, 1), ball="x", field=field, play=play), (4, 1))
        self.assertEqual(sights.spot(time=(9, 2), ball="x", field=field, play=play), ("at", "b"))
        self.assertEqual(sights.sight(time=(10, 1), field=field, play=play)[0], ("x", ("at", "a")))

    def test_all_arguments_of_faults_by_name(self):
        court, row = court_of(LINE), ((1, 2), (0, 1))
        offered = (((0, 1), (3, 2), (3, 1)), fields.all_fields(court, row)[1])
        self.assertEqual(faults.fault(fields=offered, lags=row, court=court), ("home", "p", "a"))
        paper = faults.breaking(fields=offered, lags=row, court=court)
        self.assertEqual(faults.shows_breaking(value=paper, fields=offered, lags=row, court=court), True)

    def test_all_arguments_of_letters_by_name(self):
        court = court_of(LINE)
        told = letters.letters_of(play=play_of(PLAY, LINE))
        self.assertEqual(letters.due_by(letter=told[0], player="q", lags=((1, 2), (0, 1)), court=court), (3, 2))
        ear = letters.Ear(player="q", court=court)
        self.assertEqual([ear.hear(letter=told[0]), ear.heard(player="p"), len(ear.known())], [None, 1, 1])

    def test_all_arguments_of_engines_by_name(self):
        court, row = court_of(LINE), ((1, 2), (0, 1))
        engine = engines.Engine(player="p", fields=fields.all_fields(court, row), lags=row, court=court)
        letter = engine.strike(course=(("b", 2), ("a", 2)), ball="x", time=(1, 2))
        self.assertEqual(letter, ("strike", "p", 0, (0, "x", (("b", 2), ("a", 2)))))
        self.assertEqual([engine.hear(letter=letter), engine.story(time=(1, 2))], [None, (letter[3],)])
        self.assertEqual(engine.shows(time=(2, 1))[0], ("x", ("on", "a", "b", (1, 2))))

    def test_all_arguments_of_halls_by_name(self):
        hall = halls.Hall(court=court_of(LINE))
        self.assertEqual(hall.do(deed=("wait", (1, 2))), None)
        self.assertEqual(hall.seen(player="q")[1], ("y", ("at", "c")))

    def test_all_arguments_of_headroom_by_name(self):
        court = court_of(LINE)
        value = headroom.headroom(court=court)
        self.assertEqual(headroom.shows_headroom(value=value, court=court), True)
        self.assertEqual(headroom.holds_by(factor=(1, 1), court=court), rings.holds(court))
        self.assertEqual([headroom.tight(court=court), headroom.least_slowing(court=court)], [(), 1])

    def test_all_arguments_of_clocks_by_name(self):
        court, offsets = court_of(LINE), ((1, 1), (0, 1))
        table = clocks.measured(offsets=offsets, court=court)
        self.assertEqual(table, (("p", "q", (3, 2)), ("q", "p", (-5, 2))))
        value = clocks.lags_of(table=table, court=court)
        self.assertEqual(value, ("lags", ((3, 2), (0, 1))))
        self.assertEqual(clocks.shows_lags_of(value=value, table=table, court=court), True)
        self.assertEqual(clocks.led_back(offsets=offsets, lags=value[1], court=court), ((1, 2), (0, 1)))

    def test_all_arguments_of_watchers_by_name(self):
        court, row = court_of(LINE), ((1, 2), (0, 1))
        field = watchers.watcher_field(delays=(1, 1), lags=row, court=court)
        self.assertEqual(field, ((3, 2), (1, 2), (1, 1)))
        self.assertEqual(watchers.is_watcher_field(field=field, delays=(1, 1), lags=row, court=court), True)
        self.assertEqual(watchers.least_lag(place="c", delays=(1, 1), lags=row, court=court), (1, 1))

    def test_all_arguments_of_scripts_desks_and_journals_by_name(self):
        self.assertEqual(scripts.played(text=text_of(LINE + ["hall", "lags", "clock"])), ("1/2 0", "0"))
        found = desk.Desk(court=court_of(LINE))
        self.assertEqual([found.say(line="wait 7"), found.tried(lines=("clock",))], ["ok", ("7",)])
        self.assertEqual(journals.read_journal(text=journals.journal(desk=found)), found)
