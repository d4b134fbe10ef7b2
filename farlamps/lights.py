"""Lights: lamps seen from afar, of which nobody sees whose a bright beat is."""

from farlamps.errors import NoLight, NoNumber, NoPaper
from farlamps.lamps import Lamp, seen_from
from farlamps.whole import check_beat, is_whole

MOST_LAMPS = 10


class Light:
    """The light of none to ten lamps, numbered from 0 in their order."""

    def __init__(self, lamps):
        if not isinstance(lamps, (list, tuple)) or len(lamps) > MOST_LAMPS:
            raise NoLight("lamps")
        if not all([isinstance(lamp, Lamp) for lamp in lamps]):
            raise NoLight("lamps")
        self._lamps = _copied(lamps)

    def __eq__(self, other):
        return isinstance(other, Light) and self._lamps == other._lamps

    def lamps(self):
        """Tell the list of the lamps, in their order."""
        return _copied(self._lamps)

    def wait(self):
        """Tell at how many beats in a row the light must be bright to be bright for ever."""
        return 1 << len(self._lamps)

    def is_bright(self, beat):
        """Tell whether some lamp shines at a beat."""
        return len(self.shining(beat)) > 0

    def shining(self, beat):
        """Tell the rising list of the numbers of the lamps that shine at a beat."""
        check_beat(beat)
        return [number for number, lamp in enumerate(self._lamps) if lamp.shines(beat)]

    def next_bright(self, begin):
        """Tell ("bright", beat) of the first bright beat from begin on, or ("never",)."""
        check_beat(begin)
        if not self._lamps:
            return ("never",)
        return ("bright", min([lamp.next_shine(begin) for lamp in self._lamps]))

    def next_dark(self, begin):
        """Tell ("dark", beat) of the first dark beat from begin on, or ("ever", paper)."""
        check_beat(begin)
        rows = _rows_from(self, begin)
        dark = empty_places(rows)
        if not dark:
            return ("ever", least_paper(rows))
        return ("dark", begin + dark[0])

    def last_dark(self, begin):
        """Tell ("dark", beat) of the last dark beat up to begin, or ("ever", paper)."""
        check_beat(begin)
        first = begin - self.wait() + 1
        rows = _rows_from(self, first)
        dark = empty_places(rows)
        if not dark:
            return ("ever", least_paper(rows))
        return ("dark", first + dark[-1])


def check_ever(light, begin, paper):
    """Tell None where the paper shows, from begin on, that the light is bright for ever; else refuse it."""
    check_beat(begin)
    if not isinstance(paper, list):
        raise NoPaper(-1)
    rows = _rows_from(light, begin)
    at = first_amiss(paper, rows)
    if at is not None:
        raise NoPaper(at)
    if len(paper) != len(rows):
        raise NoPaper(min(len(paper), len(rows)))


def check_numbers(light, numbers):
    """Refuse what is no list or tuple of unlike numbers of the light's lamps."""
    if not isinstance(numbers, (list, tuple)):
        raise NoNumber(numbers)
    many = len(light.lamps())
    for place, thing in enumerate(numbers):
        if not is_whole(thing) or not 0 <= thing < many or thing in numbers[:place]:
            raise NoNumber(thing)


def shining_rows(numbered, begin, many):
    """Tell of each of many beats from begin on a row: the rising list of the numbers of the lamps that shine.

    numbered is a list of pairs of a number and its lamp, rising by numbers.
    """
    rows = [[] for offset in range(many)]
    for number, lamp in numbered:
        # Going by periods from the first shine on divides great numbers once a lamp, not once a beat.
        for offset in range(lamp.next_shine(begin) - begin, many, lamp.period):
            rows[offset].append(number)
    return rows


def seen_rows(lamp, numbered, first, many):
    """Tell the rows of the numbered lamps at many own beats of a lamp, from its own beat of number first on."""
    seen = [(number, seen_from(lamp, other)) for number, other in numbered]
    return shining_rows([(number, other) for number, other in seen if other is not None], first, many)


def empty_places(rows):
    """Tell the rising list of the places of the rows at which no lamp shines."""
    return [place for place, row in enumerate(rows) if not row]


def least_paper(rows):
    """Tell the paper of rows of which none is empty: the least number of each."""
    return [row[0] for row in rows]


def first_amiss(paper, rows):
    """Tell the place of the first thing in a paper that is no number of the row at its place, or None."""
    for place, (thing, row) in enumerate(zip(paper, rows)):
        if not is_whole(thing) or thing not in row:
            return place
    return None


def _rows_from(light, begin):
    # So many beats are enough: a light of k lamps that is bright at 2 ** k beats in a row is bright for ever.
    return shining_rows(list(enumerate(light.lamps())), begin, light.wait())


def _copied(lamps):
    # A light shares no lamp with anybody, so that nothing that is done to one changes it.
    return [Lamp(lamp.period, lamp.beat) for lamp in lamps]
