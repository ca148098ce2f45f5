"""Integers that bound something."""

from imagetalk.errors import BadCount

MOST_SENDS = 5000
MOST_CODES_DONE = 20000


def is_integer(thing):
    """Whether it is an integer."""
    return isinstance(thing, int) and not isinstance(thing, bool)


def is_count(thing, most):
    """Whether it is an integer from 0 up to the most."""
    return is_integer(thing) and 0 <= thing <= most


def check_sends(thing):
    """Refuses what cannot bound the sends of a run."""
    if not is_count(thing, MOST_SENDS):
        raise BadCount("not an integer from 0 to 5000")


def check_codes(thing):
    """Refuses what cannot be a number of codes to be done."""
    if not is_count(thing, MOST_CODES_DONE):
        raise BadCount("not an integer from 0 to 20000")
