"""Lights made of lights."""

from farlamps.errors import NoSize, TooMany
from farlamps.lamps import Lamp, meet, seen_from
from farlamps.lights import MOST_LAMPS, Light, check_numbers
from farlamps.whole import check_beat, is_whole


def moved(light, by):
    """Tell the light that is at each beat what the light is at that beat less by."""
    check_beat(by)
    return Light([Lamp(lamp.period, lamp.beat + by) for lamp in light.lamps()])


def stretched(light, times):
    """Tell the light that is at times times each beat what the light is at the beat, and dark at all between."""
    if not is_whole(times) or times < 1:
        raise NoSize("times")
    return Light([Lamp(lamp.period * times, lamp.beat * times) for lamp in light.lamps()])


def thinned(light, lamp):
    """Tell what is seen of the light at the lamp's own beats alone, by their numbers."""
    seen = [seen_from(lamp, other) for other in light.lamps()]
    return Light([other for other in seen if other is not None])


def without(light, numbers):
    """Tell the light without the lamps of these numbers."""
    check_numbers(light, numbers)
    return Light([lamp for number, lamp in enumerate(light.lamps()) if number not in numbers])


def joined(one, other):
    """Tell the light that is bright where the one or the other is."""
    return _light_of(one.lamps() + other.lamps())


def both(one, other):
    """Tell the light that is bright just where both lights are."""
    met = [meet(lamp, beside) for lamp in one.lamps() for beside in other.lamps()]
    return _light_of(_unlike([lamp for lamp in met if lamp is not None]))


def _light_of(lamps):
    if len(lamps) > MOST_LAMPS:
        raise TooMany(MOST_LAMPS)
    return Light(lamps)


def _unlike(lamps):
    """Tell the lamps in their order, of equal ones the first alone."""
    seen = set()
    unlike = []
    for lamp in lamps:
        if (lamp.period, lamp.beat) not in seen:
            seen.add((lamp.period, lamp.beat))
            unlike.append(lamp)
    return unlike
