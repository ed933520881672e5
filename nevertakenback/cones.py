"""Cones: which strikes can matter at a place by a tick, and what is there."""

from nevertakenback.checks import check_place, check_tick
from nevertakenback.errors import BadNumbers, Unlike
from nevertakenback.plays import Play, is_behind, strikers, write_strike
from nevertakenback.runs import Run
from nevertakenback.words import is_integer_from


def cone(play, place, tick):
    """The numbers of the strikes from whose place and tick full speed comes to the place by this tick."""
    check_place(play.court, place)
    check_tick(tick)
    far = [play.court.distances[struck_at, place] for _, struck_at in strikers(play)]
    return tuple([number for number, strike in enumerate(play.strikes) if strike[0] + far[number] <= tick])


def balls_at(play, place, tick):
    """All (ball, left) of the balls that are at this place in this tick."""
    check_place(play.court, place)
    check_tick(tick)
    return tuple(gathered(play, tick).get(place, []))


def gathered(play, tick):
    """For each place with balls in this tick the list of their (ball, left), ascending."""
    found = {}
    for ball in sorted(play.run.stays):
        since, place, left = [stay for stay in play.run.stays[ball] if stay[0] <= tick][-1]
        if since == tick or not left:
            found.setdefault(place, []).append((ball, left))
    return found


def kept(play, numbers):
    """The Play of these strikes alone, without those that cannot stand behind those ahead of them."""
    if not are_numbers(play, numbers):
        raise BadNumbers(numbers)
    return standing_play(play.court, [play.strikes[number] for number in numbers])


def are_numbers(play, value):
    """Whether any value is an ascending tuple of numbers of strikes."""
    if not isinstance(value, tuple):
        return False
    last = len(play.strikes) - 1
    if not all([is_integer_from(number, 0, last) for number in value]):
        return False
    return all([number < behind for number, behind in zip(value, value[1:])])


def standing_play(court, strikes):
    """The Play of those of the strikes, ascending, that can stand behind those ahead of them."""
    run = Run(court)
    stood = []
    for strike in strikes:
        # Engines may know more strikes than a play has, or two of one ball in one tick: a play has none of those.
        if is_behind(stood, strike) and run.take(strike):
            stood.append(strike)
    return Play(court, "\n".join(["play"] + [write_strike(strike) for strike in stood]))


def seen_alike(one, other, place, tick):
    """Whether the same balls, with the same left of their courses, are there in both plays."""
    check_alike_courts(one, other)
    return balls_at(one, place, tick) == balls_at(other, place, tick)


def check_alike_courts(one, other):
    """Raises Unlike unless both plays have equal courts."""
    if one.court != other.court:
        raise Unlike(None)


def first_unlike(one, other):
    """The least (tick, place) at which both plays are not seen alike, None if there is none."""
    check_alike_courts(one, other)
    # As long as all is alike, nothing but a strike makes it unlike; so no other ticks need be looked at.
    for tick in sorted(set([strike[0] for strike in one.strikes + other.strikes])):
        found, match = gathered(one, tick), gathered(other, tick)
        for place in one.court.places:
            if found.get(place) != match.get(place):
                return (tick, place)
    return None
