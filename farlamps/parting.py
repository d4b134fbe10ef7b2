"""Two lights: whether the one is within the other, and which beats part them."""

from farlamps.errors import NoPaper
from farlamps.lights import empty_places, first_amiss, least_paper, seen_rows
from farlamps.whole import check_beat


def within(one, other, *, begin=0):
    """Tell ("within", papers), or ("beat", beat) of the first from begin on, bright in the one, dark in the other."""
    check_beat(begin)
    beats = _first_beats(one, other, begin)
    if beats:
        return ("beat", min(beats))
    return ("within", _papers(one, other))


def parted(one, other, *, begin=0):
    """Tell ("beat", beat) of the first from begin on that parts the lights, or ("alike", papers, papers)."""
    check_beat(begin)
    beats = _first_beats(one, other, begin) + _first_beats(other, one, begin)
    if beats:
        return ("beat", min(beats))
    return ("alike", _papers(one, other), _papers(other, one))


def parted_back(one, other, *, begin=0):
    """Tell ("beat", beat) of the last up to begin that parts the lights, or ("alike", papers, papers)."""
    check_beat(begin)
    beats = _last_beats(one, other, begin) + _last_beats(other, one, begin)
    if beats:
        return ("beat", max(beats))
    return ("alike", _papers(one, other), _papers(other, one))


def check_within(one, other, papers):
    """Tell None where the papers show that the one is within the other; else refuse them."""
    lamps = one.lamps()
    if not isinstance(papers, list) or len(papers) != len(lamps):
        raise NoPaper(-1)
    if not all([isinstance(paper, list) and len(paper) == other.wait() for paper in papers]):
        raise NoPaper(-1)
    for number, (lamp, paper) in enumerate(zip(lamps, papers)):
        if first_amiss(paper, _rows(lamp, other, 0)) is not None:
            raise NoPaper(number)


def _papers(one, other):
    return [least_paper(_rows(lamp, other, 0)) for lamp in one.lamps()]


def _first_beats(one, other, begin):
    """Tell of each lamp of the one, where it has any, its first beat from begin on that is dark in the other."""
    beats = []
    for lamp in one.lamps():
        first = (lamp.next_shine(begin) - lamp.beat) // lamp.period
        left = empty_places(_rows(lamp, other, first))
        if left:
            beats.append(lamp.beat + (first + left[0]) * lamp.period)
    return beats


def _last_beats(one, other, begin):
    """Tell of each lamp of the one, where it has any, its last beat up to begin that is dark in the other."""
    beats = []
    for lamp in one.lamps():
        first = (begin - lamp.beat) // lamp.period - other.wait() + 1
        left = empty_places(_rows(lamp, other, first))
        if left:
            beats.append(lamp.beat + (first + left[-1]) * lamp.period)
    return beats


def _rows(lamp, other, first):
    # Seen from the lamp's own beats the other is a light of no more lamps: dark within its wait(), or never.
    return seen_rows(lamp, list(enumerate(other.lamps())), first, other.wait())
