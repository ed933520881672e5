"""The examples that stand in the document, word by word."""

import doctest
import unittest

COURTS = r"""
>>> from nevertakenback.courts import apart, Court, delay, distance, give, owner, shortest, with_delay, with_length
>>> lines = ['court', 'stretch 1/2 7/4', 'place a', 'place b', 'place c', 'way a b 4', 'way b c 2', 'way a c 9', 'player ann a', 'player bob c']
>>> court = Court('\n'.join(lines + ['delay bob ann 3', 'ball x a']))
>>> [court.stretch, give(court), court.players, court.delays]
[((1, 2), (7, 4)), (1, 2), (('ann', ('a',)), ('bob', ('c',))), (('ann', 'bob', 0), ('bob', 'ann', 3))]
>>> [distance(court, 'a', 'c'), shortest(court, 'c', 'a'), apart(court, 'ann', 'bob'), delay(court, 'bob', 'ann'), owner(court, 'b')]
[6, ('c', 'b', 'a'), 6, 3, None]
>>> [with_length(court, 'c', 'a', 5).ways[2], distance(with_length(court, 'c', 'a', 5), 'a', 'c')]
[('a', 'c', 5), 5]
>>> with_delay(with_delay(court, 'bob', 'ann', 1), 'ann', 'bob', 2).text.split('\n')[10:]
['delay bob ann 1', 'delay ann bob 2', 'ball x a']
"""

PLAYS = r"""
>>> from nevertakenback.courts import Court
>>> from nevertakenback.plays import last_tick, legs, meetings, Play, strikers, where, with_strike
>>> rows = ['court', 'stretch 1/2 2', 'place a', 'place b', 'place c', 'way a b 2', 'way b c 3', 'player p a', 'player q c']
>>> court = Court('\n'.join(rows + ['delay p q 3', 'delay q p 1', 'ball x a', 'ball y c']))
>>> play = Play(court, 'play\nstrike 0 x b 3 c 3\nstrike 0 y b 3 a 2\nstrike 6 y b 4 a 2')
>>> [where(play, 'x', tick) for tick in (0, 1, 3, 4, 5, 99)]
[('at', 'a'), ('on', 'a', 'b', (1, 3)), ('at', 'b'), ('on', 'b', 'a', (1, 2)), ('at', 'a'), ('at', 'a')]
>>> legs(play, 'y')
(('c', 'b', 0, 3), ('b', 'c', 3, 6), ('c', 'b', 6, 10), ('b', 'a', 10, 12))
>>> [strikers(play), meetings(play), last_tick(play), last_tick(Play(court, 'play'))]
[(('p', 'a'), ('q', 'c'), ('q', 'c')), ((3, 'b', ('x', 'y')),), 12, 0]
>>> more = with_strike(play, (5, 'x', (('b', 2), ('a', 2))))
>>> [more.strikes[2], legs(more, 'x')[2:], with_strike(more, (20, 'y', (('b', 9), ('c', 3)))).text.split('\n')[-1]]
[(5, 'x', (('b', 2), ('a', 2))), (('a', 'b', 5, 7), ('b', 'a', 7, 9)), 'strike 20 y b 9 c 3']
"""

CONES = r"""
>>> from nevertakenback.cones import balls_at, cone, first_unlike, kept, seen_alike
>>> from nevertakenback.courts import Court
>>> from nevertakenback.plays import Play
>>> rows = ['court', 'stretch 1/2 2', 'place a', 'place b', 'place c', 'way a b 2', 'way b c 3', 'player p a', 'player q c']
>>> court = Court('\n'.join(rows + ['delay p q 3', 'delay q p 1', 'ball x a', 'ball y c']))
>>> play = Play(court, 'play\nstrike 0 x b 3 c 3\nstrike 0 y b 3 a 2\nstrike 6 y b 4 a 2')
>>> [cone(play, 'a', 4), cone(play, 'a', 5), cone(play, 'b', 3), cone(play, 'b', 9)]
[(0,), (0, 1), (0, 1), (0, 1, 2)]
>>> [balls_at(play, 'b', 3), balls_at(play, 'c', 6), balls_at(play, 'a', 5), balls_at(play, 'a', 4)]
[(('x', (('a', 2),)), ('y', (('c', 3),))), (('y', (('b', 4), ('a', 2))),), (('x', ()),), ()]
>>> alone = kept(play, (0,))
>>> [alone.text.split('\n')[1:], balls_at(alone, 'b', 3), kept(play, (0, 2)).strikes == alone.strikes]
[['strike 0 x b 3 c 3'], (('x', (('c', 3),)),), False]
>>> [seen_alike(play, alone, 'a', 4), seen_alike(play, alone, 'a', 5), first_unlike(play, alone), first_unlike(play, play)]
[True, False, (0, 'c'), None]
"""

RINGS = r"""
>>> from nevertakenback.courts import Court
>>> from nevertakenback.lags import greatest_delay, least_above, noughts
>>> from nevertakenback.rings import holds, is_right, needs, ring_need, shows_holds
>>> lines = ['court', 'stretch 1/2 2', 'place a', 'place m', 'place b', 'place c', 'way a m 4', 'way m b 4', 'way m c 2']
>>> lines = lines + ['player ann a', 'player bob b', 'player cid c', 'delay ann bob 5', 'delay bob ann 2', 'delay ann cid 1']
>>> court = Court('\n'.join(lines + ['delay cid ann 4', 'delay bob cid 3', 'delay cid bob 2', 'ball x a']))
>>> needs(court)
(('ann', 'bob', (1, 1)), ('ann', 'cid', (-2, 1)), ('bob', 'ann', (-2, 1)), ('bob', 'cid', (0, 1)), ('cid', 'ann', (1, 1)), ('cid', 'bob', (-1, 1)))
>>> [holds(court)[0], is_right(court, ((1, 1), (0, 1), (2, 1))), shows_holds(court, ('ring', ('bob', 'cid', 'ann')))]
['ring', False, True]
>>> [ring_need(court, ('ann', 'bob', 'cid')), ring_need(court, ('ann', 'bob')), ring_need(court, ('bob', 'cid')), ring_need(court, ('ann', 'cid', 'bob'))]
[(2, 1), (-1, 1), (-1, 1), (-5, 1)]
>>> calm = Court('\n'.join(lines + ['delay cid ann 4', 'delay bob cid 1', 'delay cid bob 2', 'ball x a']))
>>> [holds(calm), noughts(calm), least_above(calm, ((0, 1), (1, 1), (0, 1)))]
[('lags', ((1, 1), (0, 1), (2, 1))), ('bob',), ((2, 1), (1, 1), (3, 1))]
>>> [greatest_delay(calm, 'bob', 'cid'), greatest_delay(calm, 'ann', 'bob'), shows_holds(calm, ('lags', ((2, 1), (1, 1), (3, 1))))]
[1, 5, False]
"""

FIELDS = r"""
>>> from nevertakenback.courts import Court
>>> from nevertakenback.fields import all_fields, field_on, greatest_field, is_field, least_field
>>> lines = ['court', 'stretch 1/2 2', 'place a', 'place m', 'place b', 'place f', 'way a m 4', 'way m b 4', 'way m f 6']
>>> court = Court('\n'.join(lines + ['player ann a', 'player bob b', 'delay ann bob 3', 'delay bob ann 4', 'ball x a']))
>>> lags = ((0, 1), (0, 1))
>>> [least_field(court, lags, 'ann'), greatest_field(court, lags, 'ann')]
[((0, 1), (1, 1), (3, 1), (0, 1)), ((0, 1), (2, 1), (4, 1), (5, 1))]
>>> all_fields(court, lags)[1]
((4, 1), (2, 1), (0, 1), (0, 1))
>>> [is_field(court, lags, 'ann', field) for field in (((0, 1), (1, 1), (3, 1), (4, 1)), ((0, 1), (1, 1), (3, 1), (9, 2)), ((0, 1), (3, 2), (5, 2), (0, 1)))]
[True, False, False]
>>> [field_on(court, least_field(court, lags, 'ann'), ('on', 'm', 'b', (1, 4))), field_on(court, least_field(court, lags, 'ann'), ('at', 'b'))]
[(3, 2), (3, 1)]
"""

FAULTS = r"""
>>> from nevertakenback.courts import Court
>>> from nevertakenback.faults import breaking, fault, shows_breaking
>>> from nevertakenback.fields import all_fields
>>> lines = ['court', 'stretch 1/2 2', 'place a', 'place m', 'place b', 'place f', 'way a m 4', 'way m b 4', 'way m f 6']
>>> court = Court('\n'.join(lines + ['player ann a', 'player bob b', 'delay ann bob 3', 'delay bob ann 4', 'ball x a']))
>>> lags, fine = ((0, 1), (0, 1)), all_fields(court, ((0, 1), (0, 1)))
>>> fine
(((0, 1), (1, 1), (3, 1), (0, 1)), ((4, 1), (2, 1), (0, 1), (0, 1)))
>>> rows = [((0, 1), (1, 1), (5, 2), (0, 1)), ((1, 1), (1, 1), (2, 1), (0, 1)), ((0, 1), (4, 1), (3, 1), (0, 1))]
>>> [fault(court, lags, fine), [fault(court, lags, (row, fine[1])) for row in rows]]
[None, [('news', 'ann', 'bob', 'b'), ('home', 'ann', 'a'), ('steep', 'ann', 'a', 'm')]]
>>> soon = (rows[0], fine[1])
>>> texts = ['play\nstrike 0 x m 4 b 4\nstrike 8 x m 4 b 4', 'play\nstrike 0 x m 4 b 4', 'play\nstrike 0 x m 4 b 9\nstrike 30 x m 5 a 4']
>>> [shows_breaking(court, lags, soon, ('news', 'ann', 'bob', 'b', text)) for text in texts]
[True, False, True]
>>> late = (((1, 1), (1, 1), (3, 1), (0, 1)), ((5, 1), (3, 1), (0, 1), (0, 1)))
>>> [fault(court, ((1, 1), (0, 1)), late), breaking(court, ((1, 1), (0, 1)), late)[:4]]
[('steep', 'bob', 'm', 'b'), ('steep', 'bob', 'm', 'b')]
>>> [shows_breaking(court, ((1, 1), (0, 1)), late, ('steep', 'bob', 'm', 'b', texts[0], 'x', number)) for number in (0, 1, 2, 3)]
[False, True, False, True]
>>> [shows_breaking(court, lags, (rows[1], fine[1]), ('home', 'ann', 'a', text, 1)) for text in ('play\nstrike 0 x m 4 a 4\nstrike 8 x m 4 a 4', texts[0])]
[True, False]
"""

SIGHTS = r"""
>>> from nevertakenback.courts import Court
>>> from nevertakenback.plays import Play
>>> from nevertakenback.sights import seen_legs, sight, spot, stretches, tick_seen
>>> rows = ['court', 'stretch 1/2 2', 'place a', 'place b', 'place c', 'way a b 2', 'way b c 3', 'player p a', 'player q c']
>>> court = Court('\n'.join(rows + ['delay p q 3', 'delay q p 1', 'ball x a', 'ball y c']))
>>> play = Play(court, 'play\nstrike 0 x b 3 c 3\nstrike 0 y b 3 a 2\nstrike 6 y b 4 a 2')
>>> field = ((1, 2), (3, 2), (3, 1))
>>> [seen_legs(play, field, 'x'), stretches(play, field, 'x')]
[(('a', 'b', (1, 2), (9, 2)), ('b', 'a', (9, 2), (11, 2))), ((4, 3), (1, 2))]
>>> stretches(play, field, 'y')
((1, 2), (3, 2), (5, 8), (1, 2))
>>> [spot(play, field, 'x', time) for time in ((0, 1), (1, 2), (5, 2), (9, 2), (5, 1), (20, 1))]
[('at', 'a'), ('at', 'a'), ('on', 'a', 'b', (1, 2)), ('at', 'b'), ('on', 'b', 'a', (1, 2)), ('at', 'a')]
>>> [tick_seen(play, field, 'x', time) for time in ((0, 1), (5, 2), (9, 2), (5, 1), (20, 1))]
[(-1, 2), (3, 2), (3, 1), (4, 1), (39, 2)]
>>> sight(play, field, (10, 1))
(('x', ('at', 'a')), ('y', ('on', 'c', 'b', (2, 5))))
"""

LETTERS = r"""
>>> from nevertakenback.courts import Court
>>> from nevertakenback.letters import due_by, Ear, letters_of
>>> from nevertakenback.plays import Play
>>> lines = ['court', 'stretch 1/2 3/2', 'place a', 'place b', 'way a b 4', 'player ann a', 'player bob b', 'delay bob ann 3', 'ball x a']
>>> court = Court('\n'.join(lines))
>>> play = Play(court, 'play\nstrike 2 x b 5\nstrike 9 x a 4\nstrike 20 x b 4')
>>> told = letters_of(play)
>>> [told[0], [letter[1:3] for letter in told]]
[('strike', 'ann', 0, (2, 'x', (('b', 5),))), [('ann', 0), ('bob', 0), ('ann', 1)]]
>>> ear = Ear(court, 'bob')
>>> [ear.hear(told[2]), ear.heard('ann'), ear.known(), ear.hear(told[0]), ear.heard('ann'), len(ear.known())]
[None, 0, (), None, 2, 2]
>>> [due_by(court, ((1, 1), (1, 2)), 'bob', told[0]), due_by(court, ((1, 1), (1, 2)), 'ann', told[1])]
[(6, 1), (19, 2)]
"""

ENGINES = r"""
>>> from nevertakenback.courts import Court
>>> from nevertakenback.engines import Engine
>>> from nevertakenback.fields import all_fields
>>> lines = ['court', 'stretch 1/2 2', 'place a', 'place m', 'place b', 'way a m 4', 'way m b 4', 'player ann a', 'player bob b']
>>> court = Court('\n'.join(lines + ['delay ann bob 3', 'delay bob ann 5', 'ball x a']))
>>> lags = ((0, 1), (1, 1))
>>> fields = all_fields(court, lags)
>>> fields
(((0, 1), (2, 1), (4, 1)), ((5, 1), (3, 1), (1, 1)))
>>> ann, bob = Engine(court, lags, fields, 'ann'), Engine(court, lags, fields, 'bob')
>>> letter = ann.strike((2, 1), 'x', (('m', 4), ('b', 4)))
>>> [letter, ann.shows((5, 1)), bob.shows((5, 1))]
[('strike', 'ann', 0, (2, 'x', (('m', 4), ('b', 4)))), (('x', ('on', 'a', 'm', (1, 2))),), (('x', ('at', 'a')),)]
>>> bob.hear(letter)
>>> [bob.shows(time) for time in ((5, 1), (7, 1), (8, 1), (9, 1), (11, 1))]
[(('x', ('at', 'a')),), (('x', ('at', 'a')),), (('x', ('on', 'a', 'm', (1, 2))),), (('x', ('at', 'm')),), (('x', ('at', 'b')),)]
>>> [bob.story((6, 1)), bob.story((7, 1)) == bob.play.strikes]
[(), True]
>>> back = bob.strike((11, 1), 'x', (('m', 5), ('a', 4)))
>>> ann.hear(back)
>>> [back[2:], ann.shows((14, 1)), ann.shows((33, 2)), ann.shows((99, 1))]
[(0, (10, 'x', (('m', 5), ('a', 4)))), (('x', ('at', 'b')),), (('x', ('on', 'b', 'm', (5, 6))),), (('x', ('at', 'a')),)]
"""

HALLS = r"""
>>> from nevertakenback.courts import Court
>>> from nevertakenback.halls import Hall
>>> lines = ['court', 'stretch 1/2 3/2', 'place a', 'place b', 'way a b 4', 'player ann a', 'player bob b', 'delay bob ann 2', 'ball x a']
>>> hall = Hall(Court('\n'.join(lines)))
>>> [hall.lags, hall.fields, hall.clock, hall.seen('bob')]
[((0, 1), (0, 1)), (((0, 1), (0, 1)), ((2, 1), (0, 1))), (0, 1), (('x', ('at', 'a')),)]
>>> [hall.do(('wait', (3, 1))), hall.do(('strike', 'ann', 'x', (('b', 4),)))]
[None, ('strike', 'ann', 0, (3, 'x', (('b', 4),)))]
>>> [hall.bag, hall.do(('lose', 1)), hall.bag, hall.check()]
[((1, 'bob', ('strike', 'ann', 0, (3, 'x', (('b', 4),)))),), None, (), ('right',)]
>>> [hall.do(('wait', (6, 1))), hall.seen('ann'), hall.seen('bob'), hall.check()]
[None, (('x', ('on', 'a', 'b', (3, 4))),), (('x', ('on', 'a', 'b', (1, 2))),), ('right',)]
>>> [hall.do(('wait', (7, 1))), hall.do(('strike', 'bob', 'x', (('a', 4),)))[3], hall.seen('bob'), len(hall.play.strikes)]
[None, (7, 'x', (('a', 4),)), (('x', ('at', 'b')),), 2]
"""

HEADROOM = r"""
>>> from nevertakenback.courts import Court
>>> from nevertakenback.headroom import headroom, holds_by, least_slowing, shows_headroom, tight
>>> lines = ['court', 'stretch 1/2 2', 'place a', 'place m', 'place b', 'place c', 'way a m 4', 'way m b 4', 'way m c 2']
>>> lines = lines + ['player ann a', 'player bob b', 'player cid c', 'delay ann bob 5', 'delay bob ann 2', 'delay ann cid 1']
>>> court = Court('\n'.join(lines + ['delay cid ann 4', 'delay bob cid 3', 'delay cid bob 2', 'ball x a']))
>>> calm = Court('\n'.join(lines + ['delay cid ann 4', 'delay bob cid 1', 'delay cid bob 2', 'ball x a']))
>>> [headroom(court)[:2], headroom(calm)[:2], least_slowing(court), least_slowing(calm)]
[('factor', (5, 6)), ('factor', (1, 1)), 2, 1]
>>> [holds_by(court, factor)[0] for factor in ((0, 1), (5, 6), (6, 7), (1, 1))]
['lags', 'lags', 'ring', 'ring']
>>> [shows_headroom(court, ('factor', (5, 6), ('bob', 'cid', 'ann'))), shows_headroom(court, ('factor', (8, 7), ('ann', 'bob')))]
[True, False]
>>> [tight(calm), holds_by(court, (5, 6))]
[(('ann', 'bob'), ('bob', 'cid'), ('cid', 'ann')), ('lags', ((1, 6), (0, 1), (1, 2)))]
>>> still = Court('\n'.join(lines[:1] + ['stretch 1 1'] + lines[2:12] + ['ball x a']))
>>> bare = Court('\n'.join(lines[:12] + ['ball x a']))
>>> [headroom(bare), headroom(still), least_slowing(still)]
[('any',), ('any',), 1]
"""

CLOCKS = r"""
>>> from nevertakenback.clocks import lags_of, led_back, measured
>>> from nevertakenback.courts import Court
>>> from nevertakenback.watchers import is_watcher_field, least_lag, watcher_field
>>> lines = ['court', 'stretch 1/2 3/2', 'place a', 'place b', 'place c', 'way a b 4', 'way b c 2', 'player ann a', 'player bob b', 'delay ann bob 3', 'ball x a']
>>> court = Court('\n'.join(lines))
>>> measured(court, ((1, 1), (-1, 2)))
(('ann', 'bob', (5, 2)), ('bob', 'ann', (-7, 2)))
>>> [lags_of(court, measured(court, offsets))[1] for offsets in (((0, 1), (0, 1)), ((1, 1), (-1, 2)))]
[((1, 1), (0, 1)), ((5, 2), (0, 1))]
>>> led_back(court, ((5, 2), (0, 1)), ((1, 1), (-1, 2)))
((3, 2), (1, 2))
>>> lags = ((1, 1), (0, 1))
>>> [watcher_field(court, lags, (5, 1)), least_lag(court, lags, (5, 1), 'c'), is_watcher_field(court, lags, (5, 1), ((6, 1), (4, 1), (4, 1)))]
[((6, 1), (4, 1), (3, 1)), (3, 1), True]
"""

SCRIPTS = r"""
>>> from nevertakenback.courts import Court
>>> from nevertakenback.desk import Desk
>>> from nevertakenback.journals import journal, read_journal
>>> from nevertakenback.scripts import played
>>> lines = ['court', 'stretch 1/2 3/2', 'place a', 'place b', 'way a b 4', 'player ann a', 'player bob b', 'delay bob ann 2', 'ball x a']
>>> deeds = ['lags', 'wait 3', 'strike ann x b 4', 'bag', 'lose 1', 'wait 6', 'see ann', 'see bob', 'check', 'headroom']
>>> played('\n'.join(lines + ['hall'] + deeds))
('0 0', 'ok', '3 0', '1', 'ok', 'ok', 'x on a b 3/4', 'x on a b 1/2', 'right', '2')
>>> desk = Desk(Court('\n'.join(lines)))
>>> [desk.say(line) for line in ('strike bob x a 4', 'wait 1/2', 'strike ann x b 4', 'wait 2', 'strike ann x b 4', 'hand 1', 'clock')]
['? NotSeen', 'ok', '? NotSeen', 'ok', '2 0', 'ok', '2']
>>> [desk.tried(('wait 7', 'see bob', 'lose 9')), desk.say('see bob'), desk.undo(), desk.undo(), desk.undo()]
[('ok', 'x at b', '? NoLetter'), 'x at a', None, None, None]
>>> [desk.lines[-1], desk.answers[-1], desk.redo(), desk.lines[-1], desk.copy() == desk]
['strike ann x b 4', '2 0', None, 'hand 1', True]
>>> [journal(desk).split('\n')[8:11], read_journal(journal(desk)) == desk, len(read_journal(journal(desk)).lines)]
[['ball x a', 'hall', 'strike bob x a 4'], True, 6]
"""


def example(name, text):
    """A test that runs the examples in this text."""
    return doctest.DocTestCase(doctest.DocTestParser().get_doctest(text, {}, name, None, 0))


SECTIONS = {
    4: COURTS, 5: PLAYS, 6: CONES, 7: RINGS, 8: FIELDS, 9: FAULTS, 10: SIGHTS, 11: LETTERS, 12: ENGINES, 13: HALLS,
    14: HEADROOM, 15: CLOCKS, 16: SCRIPTS,
}


def load_tests(loader, tests, pattern):
    return unittest.TestSuite([example(f"section {number}", text) for number, text in SECTIONS.items()])
