"""Lamps to be set so that no beat is dark, or trees that show that there are none.

A beat that is dark by the lamps that are set wants one of the periods that are left; so all that can be is gone
through, and no more of it than there are orders of the periods.
"""

from farlamps.errors import NoPaper, NoSize, TooMany
from farlamps.lamps import Lamp
from farlamps.lights import Light
from farlamps.whole import is_whole

MOST_LAMPS = 6
MOST_ON_MENU = 3
MOST_MORE = 4


def set_for(periods):
    """Tell ("lamps", lamps), a Lamp of each period by which no beat is dark, or ("none", tree)."""
    _check_periods(periods)
    word, told = _put_to([], list(periods), len(periods))
    if word == "none":
        return ("none", told)
    return ("lamps", _one_of_each(periods, told))


def check_none(periods, tree):
    """Tell None where the tree shows that no lamps of these periods leave no beat dark; else refuse it."""
    _check_periods(periods)
    _check_tree([], list(periods), len(periods), tree, ())


def more_for(light, menu, most):
    """Tell ("lamps", lamps), the fewest of the menu's periods by which no beat is dark any more, or ("none", tree)."""
    _check_menu(light, menu, most)
    many = 0
    told = _put_to(light.lamps(), _as_often(menu, most), many)
    while told[0] == "none" and many < most:
        many += 1
        told = _put_to(light.lamps(), _as_often(menu, most), many)
    return told


def check_more(light, menu, most, tree):
    """Tell None where the tree shows that most lamps of the menu's periods are not enough; else refuse it."""
    _check_menu(light, menu, most)
    _check_tree(light.lamps(), _as_often(menu, most), most, tree, ())


def _put_to(lamps, left, many):
    """Tell ("lamps", lamps) that leave no beat dark when put to some lamps, or ("none", tree) where there are none.

    left is the list of the periods that are left for them; many tells how many lamps there may be.
    """
    dark = Light(lamps).next_dark(0)
    if dark[0] == "ever":
        return ("lamps", [])
    beat = dark[1]
    branches = []
    for period in _wanted(left, many):
        lamp = Lamp(period, beat)
        word, told = _put_to(lamps + [lamp], _less(left, period), many - 1)
        if word == "lamps":
            return ("lamps", [lamp] + told)
        branches.append((period, told))
    return ("none", (beat, branches))


def _check_tree(lamps, left, many, tree, at):
    """Refuse the first tree, in this one at the periods at, that is not made so."""
    wanted = _wanted(left, many)
    if not _is_made_so(tree, lamps, wanted):
        raise NoPaper(at)
    beat, branches = tree
    for period, (_, below) in zip(wanted, branches):
        _check_tree(lamps + [Lamp(period, beat)], _less(left, period), many - 1, below, at + (period,))


def _is_made_so(tree, lamps, wanted):
    """Tell whether a tree, those in its branches left aside, has a dark beat and branches of just these periods."""
    if not isinstance(tree, tuple) or len(tree) != 2:
        return False
    beat, branches = tree
    if not is_whole(beat) or Light(lamps).is_bright(beat):
        return False
    if not isinstance(branches, list) or len(branches) != len(wanted):
        return False
    return all([_is_branch(branch, period) for branch, period in zip(branches, wanted)])


def _is_branch(thing, period):
    return isinstance(thing, tuple) and len(thing) == 2 and is_whole(thing[0]) and thing[0] == period


def _wanted(left, many):
    """Tell the rising list of the unlike periods of which the next lamp may be."""
    if many == 0:
        return []
    return sorted(set(left))


def _less(left, period):
    rest = list(left)
    rest.remove(period)
    return rest


def _as_often(menu, most):
    # So each period is left as long as fewer than most lamps are set.
    return list(menu) * most


def _one_of_each(periods, lamps):
    """Tell a lamp of each period, in their order: those that are there, and any one where none is."""
    rest = list(lamps)
    told = []
    for period in periods:
        place = _place_of(rest, period)
        told.append(Lamp(period, 0) if place is None else rest.pop(place))
    return told


def _place_of(lamps, period):
    for place, lamp in enumerate(lamps):
        if lamp.period == period:
            return place
    return None


def _check_periods(periods):
    if not _are_periods(periods):
        raise NoSize("periods")
    if len(periods) > MOST_LAMPS:
        raise TooMany(MOST_LAMPS)


def _check_menu(light, menu, most):
    if not _are_periods(menu) or not 1 <= len(menu) <= MOST_ON_MENU or len(set(menu)) != len(menu):
        raise NoSize("menu")
    if not is_whole(most) or not 0 <= most <= MOST_MORE:
        raise NoSize("most")
    if len(light.lamps()) + most > MOST_LAMPS:
        raise TooMany(MOST_LAMPS)


def _are_periods(things):
    return isinstance(things, (list, tuple)) and all([is_whole(thing) and thing > 0 for thing in things])
