"""Counts: how many beats of a stretch are dark or have so many lamps, and which dark beat has a number.

Nothing goes beat by beat. The beats at which all lamps of a choice shine are a lamp's beats again, counted by one
division, and there are no more than 2 ** k choices. Of a lamp that shines at every 100th beat any stretch has the
hundredth part of its length, less than one beat more or less.
"""

from math import comb, gcd, lcm

from farlamps.errors import NoNumber
from farlamps.lamps import Lamp, meet
from farlamps.whole import check_beat, is_whole


def dark_between(light, begin, end):
    """Tell how many beats from begin on, below end, are dark."""
    return by_many(light, begin, end)[0]


def by_many(light, begin, end):
    """Tell the list of how many beats from begin on, below end, have just 0, 1, 2 and so on lamps that shine."""
    check_beat(begin)
    check_beat(end)
    long = max(0, end - begin)
    often = _often(_meetings(light, begin, long), long)
    return [_with_just(just, often) for just in range(len(often))]


def share(light):
    """Tell the part of all beats that is dark, as (numerator, denominator)."""
    whole = _common_round(light)
    part = _dark_part(_meetings(light, 0, whole), whole)
    common = gcd(part, whole)
    return (part // common, whole // common)


def nth_dark(light, number, *, begin=0):
    """Tell ("dark", beat) of the dark beat of this number from begin on, or ("ever",)."""
    if not is_whole(number) or number < 0:
        raise NoNumber(number)
    check_beat(begin)
    if light.next_dark(begin)[0] == "ever":
        return ("ever",)
    wanted = number + 1
    skipped, dark = _skipped(light, begin, wanted)
    long = _just_long_enough(light, begin + skipped, wanted - dark)
    return ("dark", begin + skipped + long - 1)


def _skipped(light, begin, wanted):
    """Tell (long, dark): a stretch of this length from begin on has so many dark beats, fewer than are wanted.

    No more than 2 * wait() are left to be found behind it, however many are wanted.
    """
    wait = light.wait()
    if wanted <= wait:
        return (0, 0)
    # Among the first wanted * wait() beats as many are dark as are wanted, so only meetings among these count. By
    # them the dark beats of a stretch are a part of its length, less than wait() more or less; so with more than
    # wait() wanted the part is above nought.
    meetings = _meetings(light, begin, wanted * wait)
    whole = _common_round(light)
    long = (wanted - wait) * whole // _dark_part(meetings, whole)
    return (long, _with_just(0, _often(meetings, long)))


def _just_long_enough(light, begin, wanted):
    """Tell the least length of a stretch from begin on that has as many dark beats as are wanted."""
    # Each wait() beats have a dark one.
    low, high = 0, wanted * light.wait()
    meetings = _meetings(light, begin, high)
    while high - low > 1:
        middle = (low + high) // 2
        if _with_just(0, _often(meetings, middle)) < wanted:
            low = middle
        else:
            high = middle
    return high


def _meetings(light, begin, long):
    """Tell for 0, 1, 2 and so on the list of the lamps of the beats at which so many lamps of the light meet.

    There is one for each choice of so many lamps. Their beats are counted from begin on, and those that have none
    among the first long ones are left out, as all have that more lamps would make of them.
    """
    lamps = [Lamp(lamp.period, lamp.beat - begin) for lamp in light.lamps()]
    meetings = [[Lamp(1, 0)]] + [[] for lamp in lamps]
    for lamp in lamps:
        # From the most down, so that no choice gets the same lamp twice.
        for many in reversed(range(len(lamps))):
            met = [meet(fewer, lamp) for fewer in meetings[many]]
            meetings[many + 1].extend([more for more in met if more is not None and more.beat < long])
    return meetings


def _often(meetings, long):
    """Tell how often, for 0, 1, 2 and so on, so many lamps meet among the first long beats, each choice counted."""
    return [sum([(long - 1 - lamp.beat) // lamp.period + 1 for lamp in lamps]) for lamps in meetings]


def _with_just(just, often):
    """Tell at how many beats just so many lamps shine.

    A beat at which many shine is counted for each choice of just of them; those with more go off by turns.
    """
    return _by_turns([comb(many, just) * often[many] for many in range(just, len(often))])


def _by_turns(numbers):
    return sum(numbers[::2]) - sum(numbers[1::2])


def _common_round(light):
    whole = 1
    for lamp in light.lamps():
        whole = lcm(whole, lamp.period)
    return whole


def _dark_part(meetings, whole):
    """Tell how many of whole beats, a multiple of all periods, are dark by these meetings."""
    return _by_turns([sum([whole // lamp.period for lamp in lamps]) for lamps in meetings])
