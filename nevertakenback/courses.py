"""Courses: where a ball that was struck goes, place by place."""

from nevertakenback.words import is_integer_from, is_name, is_pair


def is_course(court, start, value):
    """Whether any value is a course of the court from this place."""
    if not is_course_form(value):
        return False
    place = start
    for end, ticks in value:
        if (place, end) not in court.lengths or ticks < court.lengths[place, end]:
            return False
        place = end
    return place in court.owners


def is_course_form(value):
    """Whether any value is a tuple of 1 to 24 (name, integer from 1 to 999)."""
    if not isinstance(value, tuple) or not 1 <= len(value) <= 24:
        return False
    return all([is_pair(step) and is_name(step[0]) and is_integer_from(step[1], 1, 999) for step in value])
