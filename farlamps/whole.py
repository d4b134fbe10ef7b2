"""Whole numbers: what is one, what is a beat, and the inverse that lamps need to meet."""

from farlamps.errors import NoBeat


def is_whole(thing):
    """Tell whether a thing is a whole number; a truth is none."""
    return isinstance(thing, int) and not isinstance(thing, bool)


def check_beat(thing):
    """Refuse what is no beat."""
    if not is_whole(thing):
        raise NoBeat(thing)


def inverse(number, modulus):
    """Tell the number from 0 to modulus - 1 that, taken number times, leaves 1 by the modulus.

    Both have no common divisor above 1, and modulus is from 1 on (by 1 the answer is 0).
    """
    older, newer = modulus, number % modulus
    # Euclid's steps, with how often number goes into each rest: each rest is number that often, by the modulus.
    older_times, newer_times = 0, 1
    while newer > 0:
        quotient = older // newer
        older, newer = newer, older - quotient * newer
        older_times, newer_times = newer_times, older_times - quotient * newer_times
    return older_times % modulus
