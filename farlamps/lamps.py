"""Lamps: each shines at its own even beats, for ever, ahead and behind."""

from math import gcd

from farlamps.errors import NoLamp
from farlamps.whole import check_beat, inverse, is_whole


class Lamp:
    """A lamp that shines at each beat that differs from its beat by a whole number of periods."""

    def __init__(self, period, beat):
        if not is_whole(period) or period < 1:
            raise NoLamp("period")
        if not is_whole(beat):
            raise NoLamp("beat")
        self.period = period
        self.beat = beat % period

    def __eq__(self, other):
        return isinstance(other, Lamp) and self.period == other.period and self.beat == other.beat

    def shines(self, beat):
        """Tell whether the lamp shines at a beat."""
        check_beat(beat)
        return (beat - self.beat) % self.period == 0

    def next_shine(self, begin):
        """Tell the first beat from begin on, begin too, at which the lamp shines."""
        check_beat(begin)
        return begin + (self.beat - begin) % self.period


def meet(one, other):
    """Tell the lamp of all beats at which both lamps shine, or None."""
    seen = seen_from(one, other)
    if seen is None:
        return None
    return Lamp(one.period * seen.period, one.beat + one.period * seen.beat)


def seen_from(lamp, other):
    """Tell what is seen of the other lamp at the lamp's own beats alone: a Lamp of their numbers, or None."""
    common = gcd(lamp.period, other.period)
    ahead = other.beat - lamp.beat
    if ahead % common != 0:
        return None
    period = other.period // common
    return Lamp(period, ahead // common * inverse(lamp.period // common, period))


def hides(one, other):
    """Tell whether the one lamp shines wherever the other does."""
    return other.period % one.period == 0 and one.shines(other.beat)
