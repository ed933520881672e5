"""Fractions: tuples (top, bottom) of integers in least terms, bottom from 1 on."""

from math import gcd


def fraction(top, bottom):
    """The fraction in least terms that is top divided by bottom, bottom being above 0."""
    common = gcd(top, bottom)
    return (top // common, bottom // common)


def is_at_most(one, other):
    """Whether the one fraction is worth the other one at most."""
    return one[0] * other[1] <= other[0] * one[1]


def is_less(one, other):
    """Whether the one fraction is worth less than the other one."""
    return not is_at_most(other, one)


def lesser(one, other):
    """The one of two fractions that is worth less."""
    return one if is_at_most(one, other) else other


def greatest(fractions):
    """The one that is worth most of a list of fractions, which is not empty."""
    most = fractions[0]
    for other in fractions:
        if is_less(most, other):
            most = other
    return most


def plus(one, other):
    """The sum of two fractions."""
    return fraction(one[0] * other[1] + other[0] * one[1], one[1] * other[1])


def minus(one, other):
    """The one fraction less the other one."""
    return fraction(one[0] * other[1] - other[0] * one[1], one[1] * other[1])


def times(one, other):
    """The product of two fractions."""
    return fraction(one[0] * other[0], one[1] * other[1])


def over(one, other):
    """The one fraction divided by the other one, which is above 0."""
    return fraction(one[0] * other[1], one[1] * other[0])
