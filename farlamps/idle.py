"""Lamps that may go: one or several of which nobody sees from afar whether they are there."""

from itertools import combinations

from farlamps.errors import NoPaper, TooMany
from farlamps.lights import check_numbers, empty_places, first_amiss, least_paper, seen_rows

MOST_TO_CHOOSE = 6


def idle(light):
    """Tell the rising list of the numbers of the idle lamps, each looked at by itself."""
    return [number for number, beat in enumerate(_beats_alone(light)) if beat is None]


def needed(light):
    """Tell of each lamp that is not idle (number, beat), beat the first from 0 on at which it shines alone."""
    return [(number, beat) for number, beat in enumerate(_beats_alone(light)) if beat is not None]


def may_go(light, numbers):
    """Tell ("go", papers) where the lamps of these numbers may go together, or ("dark", beat) of the first loss."""
    check_numbers(light, numbers)
    going = _going(light, numbers)
    beats = [_first_left(lamp, rows) for lamp, rows in going]
    lost = [beat for beat in beats if beat is not None]
    if lost:
        return ("dark", min(lost))
    return ("go", [least_paper(rows) for lamp, rows in going])


def check_go(light, numbers, papers):
    """Tell None where the papers show that the lamps of these numbers may go together; else refuse them."""
    check_numbers(light, numbers)
    if not isinstance(papers, list) or len(papers) != len(numbers):
        raise NoPaper(-1)
    wanted = [rows for lamp, rows in _going(light, numbers)]
    for place, (paper, rows) in enumerate(zip(papers, wanted)):
        if not isinstance(paper, list) or len(paper) != len(rows) or first_amiss(paper, rows) is not None:
            raise NoPaper(place)


def least_kept(light):
    """Tell the first of the shortest rising lists of numbers such that all other lamps may go together."""
    numbered = list(enumerate(light.lamps()))
    if len(numbered) > MOST_TO_CHOOSE:
        raise TooMany(MOST_TO_CHOOSE)
    # What each lamp sees is the same whichever are kept, so it is worked out once for all choices.
    seen = [seen_rows(lamp, numbered, 0, light.wait()) for number, lamp in numbered]
    for many in range(len(numbered)):
        for kept in combinations(range(len(numbered)), many):
            if _are_enough(kept, seen):
                return list(kept)
    return [number for number, lamp in numbered]


def _beats_alone(light):
    """Tell of each lamp the first beat from 0 on at which it shines and no other lamp does; None where none is."""
    every = range(len(light.lamps()))
    return [_first_left(lamp, rows) for number in every for lamp, rows in _going(light, [number])]


def _going(light, numbers):
    """Tell of each lamp that goes, rising by numbers, the lamp and the rows of the kept ones at its own beats.

    From the lamp's own beats the kept ones are seen as a light of no more lamps, so 2 ** kept rows are enough.
    """
    lamps = light.lamps()
    kept = [(number, lamp) for number, lamp in enumerate(lamps) if number not in numbers]
    return [(lamps[number], seen_rows(lamps[number], kept, 0, 1 << len(kept))) for number in sorted(numbers)]


def _first_left(lamp, rows):
    """Tell the first beat from 0 on at which the lamp shines and none in the rows of its own beats; or None."""
    left = empty_places(rows)
    if not left:
        return None
    return lamp.beat + left[0] * lamp.period


def _are_enough(kept, seen):
    """Tell whether at each lamp's first own beats, as many as the kept lamps ask for, a kept one shines."""
    wait = 1 << len(kept)
    return all([any([number in kept for number in row]) for rows in seen for row in rows[:wait]])
