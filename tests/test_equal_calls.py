"""Section 2 over the whole program: equal calls tell the same, and nothing that is handed in is changed."""

import inspect
import itertools

from nevertakenback import (
    clocks, cones, courts, engines, faults, fields, halls, headroom, journals, lags, letters, plays, rings, scripts, sights, watchers,
)
from nevertakenback.courts import Court
from nevertakenback.desk import Desk
from nevertakenback.engines import Engine
from nevertakenback.errors import TakenError
from nevertakenback.halls import Hall
from nevertakenback.letters import Ear
from nevertakenback.plays import Play
from tests.samples import Case, court_of, deep, text_of
from tests.test_interface import METHODS, PARAMETERS

LINES = [
    "court", "stretch 1/2 2", "place a", "place b", "place c", "way a b 2", "way b c 3", "player p a", "player q c",
    "delay p q 3", "delay q p 1", "ball x a", "ball y c",
]
BARRED = [line.replace("delay p q 3", "delay p q 9") for line in LINES]
PLAY = "play\nstrike 0 x b 3 c 3\nstrike 0 y b 3 a 2\nstrike 6 y b 4 a 2"
ROW = ((1, 2), (0, 1))
FIELDS = (((1, 2), (3, 2), (3, 1)), ((3, 2), (1, 2), (0, 1)))
SOON = (((1, 2), (3, 2), (2, 1)), FIELDS[1])
LETTER = ("strike", "p", 0, (0, "x", (("b", 3), ("c", 3))))
TABLE = (("p", "q", (3, 2)), ("q", "p", (-5, 2)))
SCRIPT = text_of(LINES + ["hall", "wait 1/2", "strike p x b 3 c 3", "wait 5", "see p", "see q", "bag", "check"])

# For each function the arguments of some calls; court, play and desk stand for new objects, equal each time.
CALLS = {
    courts.Court: [(text_of(LINES),), (text_of(LINES[:-2]),), (None,)],
    courts.give: [("court",)],
    courts.distance: [("court", "a", "c"), ("court", "d", "e"), ("court", ["a"], "a")],
    courts.shortest: [("court", "c", "a"), ("court", "c", True)],
    courts.owner: [("court", "a"), ("court", "b"), ("court", {})],
    courts.apart: [("court", "p", "q"), ("court", "r", "q")],
    courts.delay: [("court", "p", "q"), ("court", "p", "p"), ("court", "p", None)],
    courts.with_delay: [("court", "p", "q", 7), ("court", "p", "p", 7), ("court", "p", "q", True)],
    courts.with_length: [("court", "a", "b", 7), ("court", "a", "c", 7), ("court", "a", "b", 0)],
    courts.with_stretch: [("court", (1, 3), (3, 2)), ("court", [1, 3], (3, 2))],
    plays.Play: [("court", PLAY), ("court", PLAY + "\n"), ("court", ["play"])],
    plays.where: [("play", "x", 1), ("play", "z", 1), ("play", "x", -1)],
    plays.legs: [("play", "y"), ("play", "a")],
    plays.strikers: [("play",)],
    plays.meetings: [("play",)],
    plays.last_tick: [("play",)],
    plays.with_strike: [("play", (5, "x", (("b", 2), ("a", 2)))), ("play", (4, "x", (("b", 2),))), ("play", [5, "x", []])],
    cones.cone: [("play", "a", 5), ("play", "d", 5), ("play", "a", 100000)],
    cones.balls_at: [("play", "b", 3), ("play", "d", 5)],
    cones.kept: [("play", (0, 2)), ("play", [0, 2])],
    cones.seen_alike: [("play", "alone", "a", 5), ("play", "alone", "d", 5)],
    cones.first_unlike: [("play", "alone"), ("play", "play")],
    rings.needs: [("court",)],
    rings.ring_need: [("court", ("p", "q")), ("court", ["p", "q"])],
    rings.is_right: [("court", ROW), ("court", list(ROW))],
    rings.holds: [("court",), ("barred",)],
    rings.shows_holds: [("court", ("lags", ROW)), ("barred", ("ring", ("p", "q"))), ("court", ["lags", [ROW]])],
    lags.least_above: [("court", ((0, 1), (3, 1))), ("barred", ROW), ("court", [ROW])],
    lags.noughts: [("court",), ("barred",)],
    lags.greatest_delay: [("court", "p", "q"), ("court", "p", "p"), ("barred", "p", "q")],
    fields.least_field: [("court", ROW, "p"), ("court", ROW[::-1], "p"), ("court", ROW, ["p"])],
    fields.greatest_field: [("court", ROW, "q"), ("court", ROW, "a")],
    fields.is_field: [("court", ROW, "p", FIELDS[0]), ("court", ROW, "p", SOON[0]), ("court", ROW, "p", list(FIELDS[0]))],
    fields.all_fields: [("court", ROW), ("court", list(ROW))],
    fields.field_on: [("court", FIELDS[0], ("on", "a", "b", (1, 4))), ("court", FIELDS[0], ("at", ["b"]))],
    sights.seen_legs: [("play", FIELDS[0], "x"), ("play", FIELDS[0], "z")],
    sights.stretches: [("play", FIELDS[0], "y"), ("play", list(FIELDS[0]), "y")],
    sights.tick_seen: [("play", FIELDS[0], "x", (5, 2)), ("play", FIELDS[0], "x", [5, 2])],
    sights.spot: [("play", FIELDS[0], "x", (5, 2)), ("play", ((9, 1), (0, 1), (0, 1)), "x", (5, 2))],
    sights.sight: [("play", FIELDS[0], (10, 1)), ("play", FIELDS[0], 10)],
    faults.fault: [("court", ROW, FIELDS), ("court", ROW, SOON), ("court", ROW, list(SOON))],
    faults.breaking: [("court", ROW, SOON), ("court", ROW, FIELDS)],
    faults.shows_breaking: [("court", ROW, SOON, ("news", "p", "q", "c", PLAY)), ("court", ROW, SOON, [deep(9)]), ("court", ROW, FIELDS, None)],
    letters.letters_of: [("play",)],
    letters.due_by: [("court", ROW, "q", LETTER), ("court", ROW, "q", list(LETTER))],
    letters.Ear: [("court", "q"), ("court", ["q"])],
    engines.Engine: [("court", ROW, FIELDS, "p"), ("court", ROW, SOON, "p"), ("court", ROW, FIELDS, {"p": 1}), ("court", ROW[::-1], FIELDS, "p")],
    halls.Hall: [("court",), ("barred",)],
    headroom.headroom: [("court",), ("barred",)],
    headroom.shows_headroom: [("court", ("factor", (5, 4), ("p", "q"))), ("court", ["factor", [5, 4]])],
    headroom.holds_by: [("court", (1, 1)), ("court", (9, 1)), ("court", (-1, 1)), ("court", [1, 1])],
    headroom.tight: [("court",), ("barred",)],
    headroom.least_slowing: [("court",), ("barred",)],
    clocks.measured: [("court", ((1, 1), (0, 1))), ("court", [(1, 1), (0, 1)])],
    clocks.lags_of: [("court", TABLE), ("court", list(TABLE))],
    clocks.shows_lags_of: [("court", TABLE, ("lags", ((3, 2), (0, 1)))), ("court", TABLE, ["lags"]), ("court", None, ["lags"])],
    clocks.led_back: [("court", ((3, 2), (0, 1)), ((1, 1), (0, 1))), ("court", ((3, 2), (0, 1)), [])],
    watchers.watcher_field: [("court", ROW, (1, 1)), ("court", ROW, [1, 1])],
    watchers.is_watcher_field: [("court", ROW, (1, 1), FIELDS[0]), ("court", ROW, (1, 1), list(FIELDS[0]))],
    watchers.least_lag: [("court", ROW, (1, 1), "c"), ("court", ROW, (1, 1), ["c"])],
    scripts.played: [(SCRIPT,), (SCRIPT + "\n",), (["hall"],)],
    Desk: [("court",), ("barred",)],
    journals.journal: [("desk",)],
    journals.read_journal: [(SCRIPT,), (SCRIPT + "\n",), (None,)],
}

# For each class: how an object is made, and the arguments of some calls of each method that changes nothing.
LOOKS = {
    Ear: (("court", "q"), {"heard": [("p",), ("r",)], "known": [()]}),
    Engine: (("court", ROW, FIELDS, "p"), {"shows": [((5, 2),), ([5, 2],)], "story": [((5, 2),), (5,)]}),
    Hall: (("court",), {"seen": [("p",), (["p"],)], "check": [()]}),
    Desk: (("court",), {"tried": [(("wait 3", "clock"),), (["clock"],), ((),)], "copy": [()]}),
}
# Likewise for the methods that change something.
DEEDS = {
    Ear: (("court", "q"), {"hear": [(LETTER,), (list(LETTER),)]}),
    Engine: (("court", ROW, FIELDS, "p"), {
        "strike": [((1, 2), "x", LETTER[3][2]), ((1, 2), "y", LETTER[3][2]), ((1, 2), "x", [LETTER])],
        "hear": [(("strike", "q", 0, (0, "y", (("b", 3), ("a", 2)))),), (LETTER,), ([LETTER],)],
    }),
    Hall: (("court",), {"do": [(("wait", (5, 2)),), (("strike", "q", "y", (("b", 3), ("a", 2))),), (("hand", 1),), (["wait", (5, 2)],)]}),
    Desk: (("court",), {"say": [("strike q y b 3 a 2",), ("bag ",), (["bag"],)], "undo": [()], "redo": [()]}),
}


def made(word):
    """A new object for the words court, barred, play, alone and desk; any other value as it is, lists and dicts anew."""
    if word == "court":
        return court_of(LINES)
    if word == "barred":
        return court_of(BARRED)
    if word == "play":
        return Play(court_of(LINES), PLAY)
    if word == "alone":
        return Play(court_of(LINES), PLAY.split("\nstrike 0 y")[0])
    if word == "desk":
        return journals.read_journal(SCRIPT)
    if isinstance(word, (list, dict)):
        return type(word)(word)
    return word


def state(value):
    """All that can be told of a value, also of what an object keeps: of equal ones it is equal, and of no others."""
    if isinstance(value, (tuple, list)):
        return [type(value).__name__] + [state(part) for part in value]
    if isinstance(value, dict):
        return ["dict"] + [[state(key), state(part)] for key, part in value.items()]
    if hasattr(value, "__dict__"):
        return [type(value).__name__] + [[name, state(part)] for name, part in vars(value).items()]
    return [type(value).__name__, value]


def told(call, *args, **more):
    """What a call tells, also if it raises."""
    try:
        return ["told", state(call(*args, **more))]
    except TakenError as error:
        return ["raised", type(error).__name__, state(error.value)]


class EqualCalls(Case):
    def test_each_function_is_here(self):
        names = {found for rows in PARAMETERS.items() for found in [getattr(rows[0], name) for name in rows[1]]}
        self.assertEqual(set(CALLS), names)
        for owner in METHODS:
            self.assertEqual(set(LOOKS[owner][1]) | set(DEEDS[owner][1]), set(METHODS[owner]))

    def test_asked_again_and_with_equal_objects_made_apart(self):
        for call, rows in CALLS.items():
            kinds = []
            for row in rows:
                args = [made(word) for word in row]
                first = told(call, *args)
                self.assertEqual(told(call, *args), first, call)
                self.assertEqual(told(call, *[made(word) for word in row]), first, call)
                self.assertEqual(told(call, *args), first, call)
                kinds.append(first[0])
            self.assertEqual(kinds[0], "told", call)

    def test_by_position_and_by_names_in_any_sequence(self):
        for call, rows in CALLS.items():
            names = list(inspect.signature(call).parameters)
            for row in rows:
                first = told(call, *[made(word) for word in row])
                for order in itertools.permutations(zip(names, row)):
                    self.assertEqual(told(call, **{name: made(word) for name, word in order}), first, call)
                for many in range(1, len(row)):
                    more = {name: made(word) for name, word in zip(names[many:], row[many:])}
                    self.assertEqual(told(call, *[made(word) for word in row[:many]], **more), first, call)

    def test_nothing_that_is_handed_in_is_changed(self):
        for call, rows in CALLS.items():
            for row in rows:
                args = [made(word) for word in row]
                before = state(args)
                told(call, *args)
                self.assertEqual(state(args), before, call)

    def test_all_results_are_of_plain_kinds_or_own_classes(self):
        for call, rows in CALLS.items():
            self.plain(call(*[made(word) for word in rows[0]]))

    def plain(self, value):
        self.assertIn(type(value), (int, bool, str, tuple, type(None), Court, Play, Ear, Engine, Hall, Desk))
        if isinstance(value, tuple):
            for part in value:
                self.plain(part)


class Methods(Case):
    def objects(self, table):
        for owner, (parts, methods) in table.items():
            for name, rows in methods.items():
                for row in rows:
                    yield lambda owner=owner, parts=parts: owner(*[made(word) for word in parts]), name, row

    def test_looks_change_nothing(self):
        for make, name, row in self.objects(LOOKS):
            thing = make()
            before = state(thing)
            first = told(getattr(thing, name), *row)
            self.assertEqual(state(thing), before)
            self.assertEqual(told(getattr(thing, name), *row), first)
            self.assertEqual(told(getattr(make(), name), *row), first)

    def test_deeds_of_equal_things_tell_the_same_and_what_is_refused_changes_nothing(self):
        for make, name, row in self.objects(DEEDS):
            one, other = make(), make()
            before, args = state(one), [made(word) for word in row]
            first = told(getattr(one, name), *args)
            self.assertEqual(told(getattr(other, name), *row), first)
            self.assertEqual(state(one), state(other))
            self.assertEqual(args, list(row))
            self.assertEqual(state(one) == before, first[0] == "raised")

    def test_by_names_in_any_sequence(self):
        for table in (LOOKS, DEEDS):
            for make, name, row in self.objects(table):
                first = told(getattr(make(), name), *row)
                names = list(inspect.signature(getattr(make(), name)).parameters)
                for order in itertools.permutations(zip(names, row)):
                    self.assertEqual(told(getattr(make(), name), **dict(order)), first)

    def test_what_makes_an_object_is_not_changed_by_what_is_done_with_it(self):
        court = court_of(LINES)
        before = state(court)
        ear, engine, hall, desk = Ear(court, "q"), Engine(court, ROW, FIELDS, "p"), Hall(court), Desk(court)
        ear.hear(LETTER)
        engine.strike((1, 2), "x", LETTER[3][2])
        hall.do(("strike", "q", "y", (("b", 3), ("a", 2))))
        hall.do(("wait", (9, 1)))
        desk.say("strike q y b 3 a 2")
        desk.say("wait 9")
        self.assertEqual(state(court), before)
        self.assertEqual(court, court_of(LINES))

    def test_what_was_told_may_be_handed_in_again(self):
        hall = Hall(court_of(LINES))
        hall.do(("wait", (1, 2)))
        letter = hall.do(("strike", "p", "x", LETTER[3][2]))
        self.assertEqual(letter, LETTER)
        engine = Engine(hall.court, hall.lags, hall.fields, "q")
        engine.hear(hall.bag[0][2])
        self.assertEqual(engine.play, hall.play)
        self.assertEqual(Play(hall.court, hall.play.text).strikes, engine.story((99, 1)))
