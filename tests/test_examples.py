"""The examples that stand in the document, word by word."""

import doctest
import unittest

COURTS = r"""
>>> from nevertakenback.courts import apart, Court, delay, distance, give, owner, shortest, with_delay, with_length
>>> lines = ['court', 'stretch 1/2 7/4', 'place a', 'place b', 'place c', 'way a b 4', 'way b c 2', 'way a c 9', 'player ann a', 'player bob c']
>>> court = Court('\n'.join(lines + ['delay bob ann 3', 'ball x a']))
>>> [court.stretch, give(court), court.players, court.delays]
[((1, 2), (7, 4)), (1, 2), (('ann', ('a',)), ('bob', ('c',))), (('ann', 'bob', 0), ('bob', 'ann', 3))]
>>> [distance(court, 'a', 'c'), shortest(court, 'c', 'a'), apart(court, 'ann', 'bob'), delay(court, 'bob', 'ann'), owner(court, 'b')]
[6, ('c', 'b', 'a'), 6, 3, None]
>>> [with_length(court, 'c', 'a', 5).ways[2], distance(with_length(court, 'c', 'a', 5), 'a', 'c')]
[('a', 'c', 5), 5]
>>> with_delay(with_delay(court, 'bob', 'ann', 1), 'ann', 'bob', 2).text.split('\n')[10:]
['delay bob ann 1', 'delay ann bob 2', 'ball x a']
"""

PLAYS = r"""
>>> from nevertakenback.courts import Court
>>> from nevertakenback.plays import last_tick, legs, meetings, Play, strikers, where, with_strike
>>> rows = ['court', 'stretch 1/2 2', 'place a', 'place b', 'place c', 'way a b 2', 'way b c 3', 'player p a', 'player q c']
>>> court = Court('\n'.join(rows + ['delay p q 3', 'delay q p 1', 'ball x a', 'ball y c']))
>>> play = Play(court, 'play\nstrike 0 x b 3 c 3\nstrike 0 y b 3 a 2\nstrike 6 y b 4 a 2')
>>> [where(play, 'x', tick) for tick in (0, 1, 3, 4, 5, 99)]
[('at', 'a'), ('on', 'a', 'b', (1, 3)), ('at', 'b'), ('on', 'b', 'a', (1, 2)), ('at', 'a'), ('at', 'a')]
>>> legs(play, 'y')
(('c', 'b', 0, 3), ('b', 'c', 3, 6), ('c', 'b', 6, 10), ('b', 'a', 10, 12))
>>> [strikers(play), meetings(play), last_tick(play), last_tick(Play(court, 'play'))]
[(('p', 'a'), ('q', 'c'), ('q', 'c')), ((3, 'b', ('x', 'y')),), 12, 0]
>>> more = with_strike(play, (5, 'x', (('b', 2), ('a', 2))))
>>> [more.strikes[2], legs(more, 'x')[2:], with_strike(more, (20, 'y', (('b', 9), ('c', 3)))).text.split('\n')[-1]]
[(5, 'x', (('b', 2), ('a', 2))), (('a', 'b', 5, 7), ('b', 'a', 7, 9)), 'strike 20 y b 9 c 3']
"""


def example(name, text):
    """A test that runs the examples in this text."""
    return doctest.DocTestCase(doctest.DocTestParser().get_doctest(text, {}, name, None, 0))


def load_tests(loader, tests, pattern):
    return unittest.TestSuite([example("section 4", COURTS), example("section 5", PLAYS)])
