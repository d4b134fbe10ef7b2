"""Lights: lamps seen from afar, of which nobody sees whose a bright beat is."""

from farlamps.errors import NoLight, NoPaper
from farlamps.lamps import Lamp
from farlamps.whole import check_beat, is_whole

MOST_LAMPS = 10


class Light:
    """The light of none to ten lamps, numbered from 0 in their order."""

    def __init__(self, lamps):
        if not isinstance(lamps, (list, tuple)) or len(lamps) > MOST_LAMPS:
            raise NoLight("lamps")
        if not all([isinstance(lamp, Lamp) for lamp in lamps]):
            raise NoLight("lamps")
        self._lamps = _copied(lamps)

    def __eq__(self, other):
        return isinstance(other, Light) and self._lamps == other._lamps

    def lamps(self):
        """Tell the list of the lamps, in their order."""
        return _copied(self._lamps)

    def wait(self):
        """Tell at how many beats in a row the light must be bright to be bright for ever."""
        return 1 << len(self._lamps)

    def is_bright(self, beat):
        """Tell whether some lamp shines at a beat."""
        return len(self.shining(beat)) > 0

    def shining(self, beat):
        """Tell the rising list of the numbers of the lamps that shine at a beat."""
        check_beat(beat)
        return [number for number, lamp in enumerate(self._lamps) if lamp.shines(beat)]

    def next_bright(self, begin):
        """Tell ("bright", beat) of the first bright beat from begin on, or ("never",)."""
        check_beat(begin)
        if not self._lamps:
            return ("never",)
        return ("bright", min([lamp.next_shine(begin) for lamp in self._lamps]))

    def next_dark(self, begin):
        """Tell ("dark", beat) of the first dark beat from begin on, or ("ever", paper)."""
        check_beat(begin)
        rows = _shining_rows(self, begin)
        for offset, row in enumerate(rows):
            if not row:
                return ("dark", begin + offset)
        return ("ever", _least_paper(rows))

    def last_dark(self, begin):
        """Tell ("dark", beat) of the last dark beat up to begin, or ("ever", paper)."""
        check_beat(begin)
        first = begin - self.wait() + 1
        rows = _shining_rows(self, first)
        for offset in reversed(range(len(rows))):
            if not rows[offset]:
                return ("dark", first + offset)
        return ("ever", _least_paper(rows))


def check_ever(light, begin, paper):
    """Tell None where the paper shows, from begin on, that the light is bright for ever; else refuse it."""
    check_beat(begin)
    if not isinstance(paper, list):
        raise NoPaper(-1)
    rows = _shining_rows(light, begin)
    for at, (thing, row) in enumerate(zip(paper, rows)):
        if not is_whole(thing) or thing not in row:
            raise NoPaper(at)
    if len(paper) != len(rows):
        raise NoPaper(min(len(paper), len(rows)))


def _copied(lamps):
    # A light shares no lamp with anybody, so that nothing that is done to one changes it.
    return [Lamp(lamp.period, lamp.beat) for lamp in lamps]


def _shining_rows(light, begin):
    """Tell of each of wait() beats from begin on the rising list of the numbers of the lamps that shine.

    So many beats are enough: a light of k lamps that is bright at 2 ** k beats in a row is bright for ever.
    """
    many = light.wait()
    rows = [[] for offset in range(many)]
    for number, lamp in enumerate(light.lamps()):
        # Going by periods from the first shine on divides great numbers once a lamp, not once a beat.
        for offset in range(lamp.next_shine(begin) - begin, many, lamp.period):
            rows[offset].append(number)
    return rows


def _least_paper(rows):
    return [row[0] for row in rows]
