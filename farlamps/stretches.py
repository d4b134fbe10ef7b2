"""Stretches: beats one behind the other that are all bright, or all dark, and how long the bright ones may be.

Of a begin nothing is known at first. The first beat from it on that would be dark wants a lamp; so all bright
stretches are gone through by choosing lamps, each at the first offset that is left. All that are chosen can be so at
once, by some begin, where each two of them can.
"""

from math import gcd

from farlamps.errors import NoPaper, NoSize, TooMany
from farlamps.lamps import Lamp
from farlamps.lights import Light
from farlamps.whole import inverse, is_whole

MOST_TO_CHOOSE = 6


def stretch_at(light, beat):
    """Tell (word, first, last) of the stretch in which a beat lies, None in the place of an end that is not there."""
    if light.is_bright(beat):
        return _bright_stretch(light, beat)
    return _dark_stretch(light, beat)


def longest_bright(light):
    """Tell ("stretch", long, begin) of the first longest bright stretch from 0 on, or ("ever", paper)."""
    _check_few(light)
    told = light.next_dark(0)
    if told[0] == "ever":
        return told
    lamps = light.lamps()
    ways = _ways(Offsets(lamps))
    long = max([left for left, chosen in ways])
    return ("stretch", long, _first_begin(lamps, [chosen for left, chosen in ways if left == long]))


def tree(light, long):
    """Tell a tree that shows that no bright stretch has more than long beats; None where one has."""
    _check_few(light)
    _check_long(long)
    return _node(Offsets(light.lamps()), [], long)


def check_longest(light, long, paper):
    """Tell None where the paper is a tree for long beats; else refuse it."""
    _check_few(light)
    _check_long(long)
    _check_node(Offsets(light.lamps()), [], long, paper)


class Offsets:
    """The lamps of a light, of which some are chosen at offsets from a begin of which nothing else is known.

    Those that are chosen are told as a list of pairs of a lamp's number and its offset.
    """

    def __init__(self, lamps):
        self._periods = [lamp.period for lamp in lamps]
        # It is asked at each node which lamps agree, so what hangs on two lamps alone is worked out once.
        self._bounds = [[_bound(lamp, other) for other in lamps] for lamp in lamps]

    def others(self, chosen):
        """Tell the rising list of the numbers of the lamps that are not chosen."""
        numbers = [number for number, offset in chosen]
        return [number for number in range(len(self._periods)) if number not in numbers]

    def left(self, chosen):
        """Tell the first offset from 0 on at which no chosen lamp shines, or None."""
        told = Light([Lamp(self._periods[number], offset) for number, offset in chosen]).next_dark(0)
        if told[0] == "ever":
            return None
        return told[1]

    def apart(self, chosen, number, offset):
        """Tell the rising list of the numbers of the chosen lamps with which the lamp at the offset does not agree."""
        found = []
        for other, beside in chosen:
            common, ahead = self._bounds[number][other]
            if (ahead - offset + beside) % common != 0:
                found.append(other)
        return sorted(found)


def _bound(lamp, other):
    """Tell the greatest common divisor of the periods, and how far by it the lamp's beat lies from the other's."""
    common = gcd(lamp.period, other.period)
    return (common, (lamp.beat - other.beat) % common)


def _bright_stretch(light, beat):
    behind = light.next_dark(beat)
    if behind[0] == "ever":
        return ("bright", None, None)
    return ("bright", light.last_dark(beat)[1] + 1, behind[1] - 1)


def _dark_stretch(light, beat):
    lamps = light.lamps()
    if not lamps:
        return ("dark", None, None)
    ahead = max([beat - (beat - lamp.beat) % lamp.period for lamp in lamps])
    return ("dark", ahead + 1, light.next_bright(beat)[1] - 1)


def _ways(offsets):
    """Tell of all lamps that can be chosen together, each at the left offset, (left offset, chosen)."""
    ways = []
    waiting = [[]]
    while waiting:
        chosen = waiting.pop()
        left = offsets.left(chosen)
        ways.append((left, chosen))
        for number in offsets.others(chosen):
            if not offsets.apart(chosen, number, left):
                waiting.append(chosen + [(number, left)])
    return ways


def _first_begin(lamps, ways):
    """Tell the first beat from 0 on that is a begin by one of the ways of choosing lamps."""
    known = {}
    begins = []
    for chosen in ways:
        # By rising numbers, so that what hangs on the lamps alone is worked out once.
        numbers = tuple(sorted([number for number, offset in chosen]))
        if numbers not in known:
            known[numbers] = _weighed([lamps[number] for number in numbers])
        whole, weights, beat = known[numbers]
        less = sum([weight * offset for weight, (_, offset) in zip(weights, sorted(chosen))])
        begins.append((beat - less) % whole)
    return min(begins)


def _weighed(lamps):
    """Tell (whole, weights, beat): the lamps' common round, a weight for each, and the sum of their weighed beats.

    Where lamps of these periods meet, it is at the sum of their weighed beats, by whole. So when lamps that do not
    meet are moved by offsets at which they do, it is at beat less the sum of the weighed offsets.
    """
    whole = 1
    weights = []
    for lamp in lamps:
        common = gcd(whole, lamp.period)
        part = whole // common
        # A multiple of common, taken so often, is itself by this period and nought by the round of those ahead.
        weight = part * inverse(part, lamp.period // common)
        whole = part * lamp.period
        weights = [older * (1 - weight) % whole for older in weights] + [weight]
    beat = sum([weight * lamp.beat for weight, lamp in zip(weights, lamps)]) % whole
    return (whole, weights, beat)


def _node(offsets, chosen, long):
    """Tell the node where these lamps are chosen; None where it, or one below it, has more beats than long."""
    left = offsets.left(chosen)
    if left is None or left > long:
        return None
    things = []
    for number in offsets.others(chosen):
        apart = offsets.apart(chosen, number, left)
        if apart:
            things.append(("apart", apart[0]))
            continue
        node = _node(offsets, chosen + [(number, left)], long)
        if node is None:
            return None
        things.append(("on", node))
    return things


def _check_node(offsets, chosen, long, node):
    """Refuse the first node, from the one where these lamps are chosen on, that is amiss by itself."""
    at = tuple([number for number, offset in chosen])
    left = offsets.left(chosen)
    others = offsets.others(chosen)
    if left is None or left > long or not isinstance(node, list) or len(node) != len(others):
        raise NoPaper(at)
    if not all([_is_such(thing, offsets.apart(chosen, number, left)) for number, thing in zip(others, node)]):
        raise NoPaper(at)
    for number, (word, below) in zip(others, node):
        if word == "on":
            _check_node(offsets, chosen + [(number, left)], long, below)


def _is_such(thing, apart):
    """Tell whether a thing is such as stands in a node for a lamp that does not agree with the lamps apart."""
    if not isinstance(thing, tuple) or len(thing) != 2 or not isinstance(thing[0], str):
        return False
    word, rest = thing
    if word == "on":
        return not apart
    return word == "apart" and is_whole(rest) and rest in apart


def _check_few(light):
    if len(light.lamps()) > MOST_TO_CHOOSE:
        raise TooMany(MOST_TO_CHOOSE)


def _check_long(long):
    if not is_whole(long) or long < 0:
        raise NoSize("long")
