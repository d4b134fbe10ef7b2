"""Stage 7: set_for and check_none (7.1, 7.2)."""

import unittest
from copy import deepcopy
from fractions import Fraction
from itertools import combinations_with_replacement, product
from math import lcm
from random import Random

from farlamps.errors import NoPaper, NoSize, TooMany
from farlamps.lamps import Lamp
from farlamps.lights import Light
from farlamps.made import check_none, set_for
from tests.things import EqualToAll, Hostile, not_whole, numbers_at

FORTY = 10 ** 39 + 7


def can_be_set(periods):
    """Whether lamps of these periods can be set so that no beat of a whole round is dark, by trying all beats."""
    whole = lcm(*periods)
    return none_left(list(periods), list(range(whole)), whole)


def none_left(periods, dark, whole):
    """Whether lamps of these periods can be set so that none of the dark beats of a round is left."""
    if not dark:
        return True
    # So many beats of the round at most do the lamps make bright.
    if sum(whole // period for period in periods) < len(dark):
        return False
    return any(none_left(periods[1:], [at for at in dark if (at - beat) % periods[0]], whole)
               for beat in range(periods[0]))


def is_tree(pairs, periods, tree):
    """Whether a thing is a tree as 7.2 says, by what it says alone, the lamps of the pairs set ahead."""
    return first_amiss(pairs, periods, tree) is None


def first_amiss(pairs, periods, tree, at=()):
    """The at of the first tree that is not made so; None where all are."""
    if type(tree) is not tuple or len(tree) != 2:
        return at
    beat, branches = tree
    if type(beat) is not int or numbers_at(pairs, beat) or type(branches) is not list:
        return at
    if not all(type(branch) is tuple and len(branch) == 2 and type(branch[0]) is int for branch in branches):
        return at
    if [period for period, below in branches] != sorted(set(periods)):
        return at
    for period, below in branches:
        left = list(periods)
        left.remove(period)
        found = first_amiss(pairs + [(period, beat % period)], left, below, at + (period,))
        if found is not None:
            return found
    return None


def put_into(tree, way, change):
    """The tree, changed where a way of places of branches leads; change makes of a tree another one."""
    if not way:
        return change(tree)
    beat, branches = tree
    branches = list(branches)
    period, below = branches[way[0]]
    branches[way[0]] = (period, put_into(below, way[1:], change))
    return (beat, branches)


def ways_of(tree, way=()):
    """All ways of places of branches that lead to a tree."""
    ways = [way]
    for place, (period, below) in enumerate(tree[1]):
        ways += ways_of(below, way + (place,))
    return ways


class Counted(unittest.TestCase):
    def assert_told(self, periods):
        told = set_for(periods)
        if can_be_set(list(periods)):
            self.assertEqual(told[0], "lamps", periods)
            self.assertEqual([lamp.period for lamp in told[1]], list(periods))
            self.assertEqual(Light(told[1]).next_dark(0)[0], "ever")
        else:
            self.assertEqual(told[0], "none", periods)
            self.assertTrue(is_tree([], periods, told[1]), periods)
            self.assertIsNone(check_none(periods, told[1]))

    def test_all_of_up_to_four_small_periods(self):
        for many in range(5):
            for periods in combinations_with_replacement([1, 2, 3, 4, 5, 6, 8], many):
                self.assert_told(periods)

    def test_five_and_six(self):
        for periods in combinations_with_replacement([2, 3, 4, 6], 5):
            self.assert_told(periods)
        for periods in combinations_with_replacement([3, 4, 6], 6):
            self.assert_told(periods)
        for periods in combinations_with_replacement([4, 6, 12], 6):
            self.assert_told(periods)

    def test_in_any_order(self):
        for periods in ([12, 3, 2, 6, 4], [4, 12, 6, 3, 2], [8, 2, 8, 4], [6, 2, 6, 6], [4, 4, 3, 4, 4], [2, 9, 2]):
            self.assert_told(periods)
            self.assert_told(tuple(periods))


class Edges(unittest.TestCase):
    def test_no_periods(self):
        for periods in ([], ()):
            word, told = set_for(periods)
            self.assertEqual(word, "none")
            self.assertEqual(told[1], [])
            self.assertIsNone(check_none(periods, told))
            for beat in (0, -7, FORTY):
                self.assertIsNone(check_none(periods, (beat, [])))

    def test_a_period_of_1(self):
        for periods in ([1], [1, 1], [5, 1], [FORTY, 9, 1, 9, 7, 2], [1] * 6):
            word, lamps = set_for(periods)
            self.assertEqual(word, "lamps")
            self.assertEqual([lamp.period for lamp in lamps], periods)
            self.assertEqual(Light(lamps).next_dark(0)[0], "ever")

    def test_more_than_are_needed(self):
        for periods in ([2, 2, 9], [9, 2, FORTY, 2], [2, 2, 2, 2, 2, 2], [5, 3, 7, 3, 3, FORTY]):
            word, lamps = set_for(periods)
            self.assertEqual(word, "lamps")
            self.assertEqual([lamp.period for lamp in lamps], periods)
            self.assertEqual(Light(lamps).next_dark(0)[0], "ever")

    def test_too_few_shines_in_all(self):
        for periods in ([2], [2, 3], [3, 3, 4], [7, 8, 9, 10, 11, 12], [FORTY], [FORTY] * 6, [2, 4, 8, 16, 32, 64]):
            self.assertLess(sum(Fraction(1, period) for period in periods), 1)
            word, told = set_for(periods)
            self.assertEqual(word, "none")
            self.assertTrue(is_tree([], periods, told))
            self.assertIsNone(check_none(periods, told))

    def test_enough_shines_but_not_to_be_set(self):
        for periods in ([2, 3, 6], [2, 3, 4], [2, 3, 5, 7], [3, 4, 5, 6, 8, 10]):
            word, told = set_for(periods)
            self.assertEqual(word, "none", periods)
            self.assertIsNone(check_none(periods, told))

    def test_six_that_just_do(self):
        for periods in ([2, 4, 8, 16, 32, 32], [6] * 6, [2, 3, 4, 6, 12, 12], [3, 4, 4, 6, 6, 12]):
            self.assertEqual(set_for(periods)[0], "lamps" if can_be_set(periods) else "none")
        self.assertEqual(set_for([32, 2, 16, 4, 32, 8])[0], "lamps")

    def test_like_ones_are_used_one_by_one(self):
        word, told = set_for([3, 3])
        self.assertEqual(word, "none")
        self.assertEqual([period for period, below in told[1]], [3])
        self.assertEqual([period for period, below in told[1][0][1][1]], [3])
        self.assertEqual(told[1][0][1][1][0][1][1], [])
        self.assertEqual(told[1][0][1][1][0][0], 3)

    def test_the_greatest_tree(self):
        periods = [10 ** 20 + by for by in (39, 129, 151, 193, 207, 301)]
        word, told = set_for(periods)
        self.assertEqual(word, "none")
        self.assertEqual(len(ways_of(told)), 1957)
        self.assertIsNone(check_none(periods, told))
        self.assertIsNone(check_none(periods[::-1], told))

    def test_thousands_of_figures(self):
        far = 10 ** 3000
        for periods in ([far, far, far + 1], [far, 2, far, 3]):
            word, told = set_for(periods)
            self.assertEqual(word, "none")
            self.assertIsNone(check_none(periods, told))
        self.assertEqual(set_for([far, 2, 2])[0], "lamps")


class Good(unittest.TestCase):
    def test_any_dark_beat_may_be_taken(self):
        for beat in (-100, -1, 0, 5, FORTY, -FORTY):
            self.assertIsNone(check_none([2], (beat, [(2, (beat + 1, []))])))
            self.assertIsNone(check_none([2], (beat, [(2, (beat - 2 * FORTY - 1, []))])))
        tree = (7, [(2, (0, [(3, (2, []))])), (3, (6, [(2, (-1, []))]))])
        self.assertTrue(is_tree([], [2, 3], tree))
        self.assertIsNone(check_none([2, 3], tree))
        self.assertIsNone(check_none((3, 2), tree))

    def test_trees_by_other_beats(self):
        def grown(pairs, left, chance):
            beat = chance.randrange(-50, 50)
            while numbers_at(pairs, beat):
                beat += 1
            branches = []
            for period in sorted(set(left)):
                rest = list(left)
                rest.remove(period)
                branches.append((period, grown(pairs + [(period, beat)], rest, chance)))
            return (beat, branches)

        chance = Random(91)
        for periods in ([3, 3], [2, 3, 5], [3, 4, 4], [5, 6, 7, 8], [2, 4, 8, 16], [9, 9, 9, 9, 9]):
            for _ in range(10):
                tree = grown([], periods, chance)
                self.assertIsNone(check_none(periods, tree))


class Refused(unittest.TestCase):
    PERIODS = [3, 2, 3]
    GOOD = set_for(PERIODS)[1]

    def assert_at(self, at, tree, periods=None):
        with self.assertRaises(NoPaper) as caught:
            check_none(self.PERIODS if periods is None else periods, tree)
        self.assertEqual(caught.exception.at, at)
        self.assertIs(type(caught.exception.at), tuple)
        self.assertEqual([part for part in caught.exception.at if type(part) is not int], [])

    def ways(self):
        """The ways to all trees of the good one, with the periods by which one comes there."""
        ways = []
        for way in ways_of(self.GOOD):
            tree, at = self.GOOD, ()
            for place in way:
                at += (tree[1][place][0],)
                tree = tree[1][place][1]
            ways.append((way, at))
        return ways

    def test_the_good_one_is_not(self):
        self.assertIsNone(check_none(self.PERIODS, self.GOOD))
        self.assertEqual([at for way, at in self.ways()],
                         [(), (2,), (2, 3), (2, 3, 3), (3,), (3, 2), (3, 2, 3), (3, 3), (3, 3, 2)])

    def test_what_is_no_tuple_of_two(self):
        for thing in not_whole() + [0, 2, FORTY, (0,), (0, [], []), [0, []], "ab", b"ab", {0: [], 1: []}, range(2)]:
            for way, at in self.ways():
                self.assert_at(at, put_into(self.GOOD, way, lambda tree: thing))
            self.assert_at((), thing, [])
        for way, at in self.ways():
            self.assert_at(at, put_into(self.GOOD, way, list))
            self.assert_at(at, put_into(self.GOOD, way, lambda tree: tree + (0,)))
            self.assert_at(at, put_into(self.GOOD, way, lambda tree: tree[:1]))

    def test_a_beat_that_is_none(self):
        for thing in not_whole():
            for way, at in self.ways():
                self.assert_at(at, put_into(self.GOOD, way, lambda tree: (thing, tree[1])))
            self.assert_at((), (thing, []), [])

    def test_a_beat_that_is_bright(self):
        for way, at in self.ways():
            tree, set_ahead = self.GOOD, []
            for place in way:
                period = tree[1][place][0]
                set_ahead.append((period, tree[0]))
                tree = tree[1][place][1]
            for period, beat in set_ahead:
                for by in (0, 1, -2, FORTY):
                    self.assert_at(at, put_into(self.GOOD, way, lambda tree: (beat + by * period, tree[1])))

    def test_no_tree_where_all_beats_are_bright(self):
        for beat in range(4):
            self.assert_at((2, 2), (0, [(2, (1, [(2, (beat, []))]))]), [2, 2])
            self.assert_at((1,), (0, [(1, (beat, []))]), [1])

    def test_branches_that_are_none(self):
        for thing in not_whole():
            for way, at in self.ways():
                if type(thing) is not list or thing or len(at) < 3:
                    self.assert_at(at, put_into(self.GOOD, way, lambda tree: (tree[0], thing)))
        for way, at in self.ways():
            self.assert_at(at, put_into(self.GOOD, way, lambda tree: (tree[0], tuple(tree[1]))))
            self.assert_at(at, put_into(self.GOOD, way, lambda tree: (tree[0], dict(tree[1]))))
            self.assert_at(at, put_into(self.GOOD, way, lambda tree: (tree[0], tree[1] + [(5, (1, []))])))
            self.assert_at(at, put_into(self.GOOD, way, lambda tree: (tree[0], tree[1] + [(3, (1, []))])))
            self.assert_at(at, put_into(self.GOOD, way, lambda tree: (tree[0], tree[1] + [None])))
            if len(at) < 3:
                self.assert_at(at, put_into(self.GOOD, way, lambda tree: (tree[0], tree[1][1:])))
                self.assert_at(at, put_into(self.GOOD, way, lambda tree: (tree[0], [])))
                self.assert_at(at, put_into(self.GOOD, way, lambda tree: (tree[0], tree[1] * 2)))

    def test_branches_that_are_not_rising(self):
        self.assert_at((), (self.GOOD[0], self.GOOD[1][::-1]))
        self.assert_at((3,), put_into(self.GOOD, (1,), lambda tree: (tree[0], tree[1][::-1])))

    def test_a_branch_that_is_no_tuple_of_two_with_its_period(self):
        def with_first(thing):
            return lambda tree: (tree[0], [thing] + tree[1][1:])

        for way, at in (((), ()), ((1,), (3,))):
            below = self.GOOD[1][0][1] if not way else self.GOOD[1][1][1][1][0][1]
            self.assert_at(at, put_into(self.GOOD, way, with_first([2, below])))
            self.assert_at(at, put_into(self.GOOD, way, with_first((2,))))
            self.assert_at(at, put_into(self.GOOD, way, with_first((2, below, below))))
            self.assert_at(at, put_into(self.GOOD, way, with_first((below, 2))))
            for thing in not_whole() + [0, 2]:
                self.assert_at(at, put_into(self.GOOD, way, with_first(thing)))
            for period in not_whole() + [0, 1, -2, 3, 4, 2.0, Fraction(2), FORTY]:
                self.assert_at(at, put_into(self.GOOD, way, with_first((period, below))))

    def test_truths_are_no_periods_and_no_beats(self):
        self.assert_at((), (0, [(True, (0, []))]), [1])
        self.assert_at((), (False, []), [])
        self.assert_at((2,), (0, [(2, (True, []))]), [2])
        self.assertIsNone(check_none([2], (0, [(2, (1, []))])))

    def test_each_one_ahead_of_those_in_its_branches_and_these_in_order(self):
        paper = put_into(put_into(self.GOOD, (0, 0), lambda tree: None), (1,), lambda tree: None)
        self.assert_at((2, 3), paper)
        paper = put_into(put_into(self.GOOD, (1, 0), lambda tree: None), (1, 1), lambda tree: None)
        self.assert_at((3, 2), paper)
        paper = put_into(put_into(self.GOOD, (0, 0, 0), lambda tree: None), (1,), lambda tree: None)
        self.assert_at((2, 3, 3), paper)
        paper = put_into(put_into(self.GOOD, (0,), lambda tree: None), (), lambda tree: (tree[0], tree[1] + [None]))
        self.assert_at((), paper)

    def test_trees_of_other_periods(self):
        every = [list(periods) for many in range(4) for periods in combinations_with_replacement([2, 3, 4, 5], many)]
        for periods, others in product(every, every):
            told = set_for(others)
            if told[0] == "none":
                at = first_amiss([], periods, told[1])
                if at is None:
                    self.assertIsNone(check_none(periods, told[1]))
                else:
                    self.assert_at(at, told[1], periods)

    def test_nothing_is_changed(self):
        periods, tree = [3, 2, 3], deepcopy(self.GOOD)
        check_none(periods, tree)
        self.assertEqual((periods, tree), ([3, 2, 3], self.GOOD))


class RefusedPeriods(unittest.TestCase):
    def refused(self, periods):
        told = []
        for ask in (lambda: set_for(periods), lambda: check_none(periods, (0, [])), lambda: check_none(periods, None),
                    lambda: check_none(periods, Hostile())):
            with self.assertRaises((NoSize, TooMany)) as caught:
                ask()
            told.append(caught.exception)
        return told

    def assert_no_size(self, periods):
        for error in self.refused(periods):
            self.assertIs(type(error), NoSize)
            self.assertEqual(error.what, "periods")

    def test_what_is_no_list_or_tuple(self):
        for thing in (None, True, 0, 2, 2.5, "", "23", b"\x02\x03", {}, {2: 3}, set(), {2}, frozenset([2]), range(2, 4),
                      iter([2]), object(), list, Lamp(2, 0), Light([]), Hostile(), EqualToAll()):
            self.assert_no_size(thing)

    def test_what_is_no_whole_number_from_1_on(self):
        for thing in not_whole() + [0, -1, -2, -FORTY]:
            self.assert_no_size([thing])
            self.assert_no_size((thing,))
            self.assert_no_size([2, 2, thing])
            self.assert_no_size([thing, 3, 3])
            self.assert_no_size([1, thing])

    def test_more_than_six(self):
        for periods in ([2] * 7, (2,) * 7, [1] * 10, list(range(1, 100)), [FORTY] * 7):
            for error in self.refused(periods):
                self.assertIs(type(error), TooMany)
                self.assertEqual(error.many, 6)

    def test_what_is_no_period_goes_ahead_of_too_many(self):
        for thing in (0, True, None, "2", [], -1):
            self.assert_no_size([2] * 6 + [thing])
            self.assert_no_size([thing] + [2] * 9)


class Told(unittest.TestCase):
    def test_kinds(self):
        told = set_for([2, 2])
        self.assertEqual([type(part) for part in told], [str, list])
        self.assertEqual([type(lamp) for lamp in told[1]], [Lamp, Lamp])
        self.assertIs(type(told), tuple)
        told = set_for([2, 3])
        self.assertEqual([type(part) for part in told], [str, tuple])
        waiting = [told[1]]
        while waiting:
            tree = waiting.pop()
            self.assertEqual([type(part) for part in tree], [int, list])
            for branch in tree[1]:
                self.assertEqual([type(part) for part in branch], [int, tuple])
                waiting.append(branch[1])

    def test_new_each_time(self):
        told = set_for([3, 3])
        wanted = deepcopy(told)
        told[1][1][0][1][1].append("more")
        told[1][1].clear()
        self.assertEqual(set_for([3, 3]), wanted)
        told = set_for([2, 2])
        told[1].clear()
        self.assertEqual(len(set_for([2, 2])[1]), 2)

    def test_nothing_that_is_handed_in_is_changed_or_kept(self):
        periods = [3, 2, 3]
        told = set_for(periods)
        self.assertEqual(periods, [3, 2, 3])
        wanted = deepcopy(told)
        periods.append(6)
        self.assertEqual(told, wanted)

    def test_by_name_in_any_order(self):
        self.assertEqual(set_for(periods=[1])[0], "lamps")
        self.assertIsNone(check_none(tree=(0, []), periods=[]))


if __name__ == "__main__":
    unittest.main()
