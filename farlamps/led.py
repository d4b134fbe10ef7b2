"""A window that was watched: which lamps may stand there, and how long one must watch on to know.

Some beats in a row are kept as the bits of one whole number, the first beat as the highest bit: so the first beat of
which something is so is known by bit_length, and numbers are in the order in which their beats differ.
"""

from itertools import combinations

from farlamps.errors import NoSize, NoWindow
from farlamps.whole import check_beat, is_whole

MOST_SIGNS = 60
MOST_LAMPS = 3
LONGEST = 8


def fits(window, most, longest):
    """Tell the list of all sets of none to most lamps of periods up to longest that fit the window."""
    _check(window, most, longest)
    return _fitting(window, most, longest)


def clash(window, most, longest):
    """Tell the number of the first sign by which, with all ahead of it, no set fits; None where some set fits."""
    _check(window, most, longest)
    least = min([amiss.bit_length() for amiss in _amiss(window, _sets(most, longest), longest)])
    if least == 0:
        return None
    return len(window[1]) - least


def sure(window, most, longest, beat):
    """Tell "clash", "bright", "dark" or "open": what the beat is in the lights of all sets that fit."""
    _check(window, most, longest)
    check_beat(beat)
    seen = _seen(_fitting(window, most, longest), longest, beat, 1)
    if not seen:
        return "clash"
    if all(seen):
        return "bright"
    if any(seen):
        return "open"
    return "dark"


def watch_on(window, most, longest):
    """Tell how many beats behind the window tell apart all sets that fit and can be told apart."""
    _check(window, most, longest)
    begin, signs = window
    # Lights that are not alike are parted among so many beats in a row.
    many = longest << most
    seen = sorted(set(_seen(_fitting(window, most, longest), longest, begin + len(signs), many)))
    if len(seen) < 2:
        return 0
    # Of numbers in order, those that differ last of all stand side by side.
    return many + 1 - min([(one ^ other).bit_length() for one, other in zip(seen, seen[1:])])


def _check(window, most, longest):
    if not isinstance(window, tuple) or len(window) != 2:
        raise NoWindow("signs")
    begin, signs = window
    if not is_whole(begin):
        raise NoWindow("begin")
    if not isinstance(signs, str) or not 1 <= len(signs) <= MOST_SIGNS:
        raise NoWindow("signs")
    if not all([sign in ("b", "d", "?") for sign in signs]):
        raise NoWindow("signs")
    if not is_whole(most) or not 1 <= most <= MOST_LAMPS:
        raise NoSize("most")
    if not is_whole(longest) or not 1 <= longest <= LONGEST:
        raise NoSize("longest")


def _fitting(window, most, longest):
    sets = _sets(most, longest)
    return [chosen for chosen, amiss in zip(sets, _amiss(window, sets, longest)) if amiss == 0]


def _pairs(longest):
    """Tell the rising list of (period, beat) of all lamps of periods up to longest."""
    return [(period, beat) for period in range(1, longest + 1) for beat in range(period)]


def _sets(most, longest):
    """Tell the tuples of up to most unlike lamps, the shorter ones first, those as long in the order of tuples."""
    pairs = _pairs(longest)
    sets = []
    for many in range(most + 1):
        sets.extend(list(combinations(pairs, many)))
    return sets


def _amiss(window, sets, longest):
    """Tell of each set the bits of the signs that its light does not let be."""
    begin, signs = window
    many = len(signs)
    bright = _bits([place for place, sign in enumerate(signs) if sign == "b"], many)
    looked = _bits([place for place, sign in enumerate(signs) if sign != "?"], many)
    return [(bits ^ bright) & looked for bits in _seen(sets, longest, begin, many)]


def _seen(sets, longest, begin, many):
    """Tell of each set of lamps of periods up to longest the bits at which its light is bright, from begin on."""
    shines = {}
    for period, beat in _pairs(longest):
        shines[(period, beat)] = _bits(list(range((beat - begin) % period, many, period)), many)
    return [_joined([shines[pair] for pair in chosen]) for chosen in sets]


def _bits(places, many):
    return sum([1 << (many - 1 - place) for place in places])


def _joined(parts):
    whole = 0
    for bits in parts:
        whole |= bits
    return whole
