"""What several tests need: things of wrong kinds, and small lamps and lights, told by plain numbers."""

from decimal import Decimal
from fractions import Fraction
from itertools import product
from math import lcm
from random import Random

from farlamps.lamps import Lamp
from farlamps.lights import Light


class Hostile:
    """A thing that lets nobody compare, hash, show, test, measure or count it."""

    def _refuse(self, *told):
        raise RuntimeError("hands off")

    __eq__ = __ne__ = __lt__ = __le__ = __gt__ = __ge__ = _refuse
    __hash__ = __bool__ = __len__ = __iter__ = __getitem__ = __contains__ = _refuse
    __repr__ = __str__ = __format__ = __int__ = __index__ = __mod__ = __rmod__ = _refuse
    __add__ = __radd__ = __sub__ = __rsub__ = _refuse


class EqualToAll:
    """A thing that says of itself that it is equal to everything."""

    def __eq__(self, other):
        return True

    def __hash__(self):
        return 0


class LikeOne:
    """A thing that counts as 1 wherever an index is asked for, but is no int."""

    def __index__(self):
        return 1

    def __int__(self):
        return 1

    def __eq__(self, other):
        return other == 1


def not_whole():
    """Things of which none is a whole number, made anew."""
    return [
        True, False, None, "", "1", "beat", b"1", 0.0, 1.0, 2.5, float("nan"), float("inf"), 1j,
        Fraction(1), Decimal(1), [], [1], (), (1,), {}, {1: 1}, set(), {1}, frozenset(), range(3),
        object(), int, len, lambda: 1, Hostile(), EqualToAll(), LikeOne(),
    ]


def pairs_up_to(longest):
    """All (period, beat) with periods up to longest and beats from 0 below the period."""
    return [(period, beat) for period in range(1, longest + 1) for beat in range(period)]


def small_lights(longest, most):
    """All lists of up to most such pairs, in every order, equal ones too."""
    every = pairs_up_to(longest)
    return [list(pairs) for many in range(most + 1) for pairs in product(every, repeat=many)]


def numbers_at(pairs, beat):
    """The numbers of the pairs whose lamps shine at a beat, counted out plainly."""
    return [number for number, (period, first) in enumerate(pairs) if (beat - first) % period == 0]


def doubling(many, by=0):
    """Pairs of periods 2, 4, 8 and so on, whose light is dark just at by and each 2 ** many from there."""
    return [(2 ** (place + 1), 2 ** place + by) for place in range(many)]


def light_of(pairs):
    """The light of such pairs."""
    return Light([Lamp(period, beat) for period, beat in pairs])


def fields_of(light):
    """The pairs of a light's lamps."""
    return [(lamp.period, lamp.beat) for lamp in light.lamps()]


def round_of(*lights):
    """The common round of the periods of all these lists of pairs."""
    return lcm(*[period for pairs in lights for period, beat in pairs])


def mixed_lights(seed, how_many, numbers_of_lamps, periods):
    """Lists of pairs with these numbers of lamps and these periods, the same ones at each run."""
    chance = Random(seed)
    return [
        [(period, chance.randrange(period)) for period in chance.choices(periods, k=chance.choice(numbers_of_lamps))]
        for _ in range(how_many)
    ]
