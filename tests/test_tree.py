"""Stage 6: tree (6.3, 6.4)."""

import unittest
from math import lcm

from farlamps.errors import NoSize, TooMany
from farlamps.lights import Light
from farlamps.stretches import check_longest, longest_bright, tree
from tests.things import doubling, fields_of, light_of, mixed_lights, not_whole, numbers_at, round_of, small_lights

FORTY = 10 ** 39 + 7


def left_by_counting(pairs, chosen):
    """The first offset from 0 on at which no chosen lamp shines; None where each has one, for a whole round."""
    at_offsets = [(pairs[number][0], offset) for number, offset in chosen]
    for offset in range(round_of(at_offsets)):
        if not numbers_at(at_offsets, offset):
            return offset
    return None


def agree_by_counting(one, offset, other, beside):
    """Whether at some begin the one lamp shines at its offset from it and the other one at its."""
    for begin in range(lcm(one[0], other[0])):
        if numbers_at([one], begin + offset) and numbers_at([other], begin + beside):
            return True
    return False


def tree_by_counting(pairs, long, chosen=()):
    """The node where these lamps, (number, offset), are chosen, by what 6.3 and 6.4 say alone; None without one."""
    left = left_by_counting(pairs, chosen)
    if left is None or left > long:
        return None
    things = []
    for number in range(len(pairs)):
        if number in [other for other, offset in chosen]:
            continue
        apart = [other for other, offset in chosen
                 if not agree_by_counting(pairs[number], left, pairs[other], offset)]
        if apart:
            things.append(("apart", min(apart)))
            continue
        below = tree_by_counting(pairs, long, tuple(chosen) + ((number, left),))
        if below is None:
            return None
        things.append(("on", below))
    return things


def longest_in(pairs):
    told = longest_bright(light_of(pairs))
    return told[1] if told[0] == "stretch" else None


class Counted(unittest.TestCase):
    def assert_told(self, pairs, longs):
        for long in longs:
            self.assertEqual(tree(light_of(pairs), long), tree_by_counting(pairs, long), (pairs, long))

    def test_all_small_lights(self):
        for pairs in small_lights(4, 2):
            self.assert_told(pairs, range(6))
        for pairs in small_lights(3, 3):
            self.assert_told(pairs, range(2, 9))

    def test_mixed_lights_of_more_lamps(self):
        for pairs in mixed_lights(71, 60, [3, 4], [2, 3, 4, 6, 8]):
            self.assert_told(pairs, (1, 2, 3, 4, 5, 7, 11, 15, 16, 100))
        for pairs in mixed_lights(72, 8, [5], [4, 6, 8, 9, 12]):
            self.assert_told(pairs, (2, 4, 5, 6, 7, 31, 100))


class Edges(unittest.TestCase):
    def test_a_light_without_lamps(self):
        for long in (0, 1, 5, FORTY):
            self.assertEqual(tree(Light([]), long), [])

    def test_one_lamp(self):
        for period in (2, 5, FORTY):
            light = light_of([(period, 3)])
            self.assertIsNone(tree(light, 0))
            self.assertEqual(tree(light, 1), [("on", [])])
            self.assertEqual(tree(light, FORTY), [("on", [])])
        self.assertIsNone(tree(light_of([(1, 0)]), 1))

    def test_two_lamps(self):
        # Of even periods both, so that they are side by side nowhere.
        self.assertEqual(tree(light_of([(4, 0), (6, 2)]), 1), [("on", [("apart", 0)]), ("on", [("apart", 1)])])
        self.assertEqual(tree(light_of([(4, 0), (6, 1)]), 2), [("on", [("on", [])]), ("on", [("on", [])])])
        self.assertIsNone(tree(light_of([(4, 0), (6, 1)]), 1))
        self.assertEqual(tree(light_of([(4, 0), (4, 1)]), 2), [("on", [("on", [])]), ("on", [("apart", 1)])])

    def test_equal_lamps(self):
        below = [("apart", 0), ("apart", 0)]
        told = tree(light_of([(5, 2)] * 3), 1)
        self.assertEqual(told, [("on", below), ("on", [("apart", 1)] * 2), ("on", [("apart", 2)] * 2)])

    def test_the_least_number_of_several_that_are_apart(self):
        # Chosen in the order 2, 1, 0, so the one that is told is not the one that was chosen first.
        pairs = [(8, 2), (8, 1), (8, 0), (8, 5)]
        told = tree(light_of(pairs), 3)
        self.assertEqual(told[2][1][1][1], [("on", [("apart", 0)]), ("apart", 1)])
        self.assertEqual(told[2][1][1][1][0][1], [("apart", 0)])

    def test_just_the_longest_and_one_less(self):
        for pairs in mixed_lights(73, 100, [1, 2, 3, 4, 5, 6], [2, 3, 4, 5, 6, 8, 12, FORTY, FORTY + 1]):
            light = light_of(pairs)
            long = longest_in(pairs)
            if long is None:
                self.assertIsNone(tree(light, 2 ** len(pairs)))
                self.assertIsNone(tree(light, FORTY))
                continue
            told = tree(light, long)
            self.assertIsNone(check_longest(light, long, told))
            self.assertIsNone(tree(light, long - 1))
            # More beats than are needed ask for no other tree.
            for more in (long + 1, 2 ** len(pairs), FORTY):
                self.assertEqual(tree(light, more), told)

    def test_none_where_there_is_a_longer_stretch(self):
        for many in range(1, 7):
            light = light_of(doubling(many, 3))
            for long in range(2 ** many - 1):
                self.assertIsNone(tree(light, long))
            self.assertIsNone(check_longest(light, 2 ** many - 1, tree(light, 2 ** many - 1)))

    def test_none_where_the_light_is_bright_for_ever(self):
        for pairs in ([(1, 0)], [(2, 0), (2, 1)], [(FORTY, 2), (2, 0), (4, 1), (4, 3)],
                      [(6, place) for place in range(6)]):
            for long in (0, 1, 5, 63, 64, FORTY):
                self.assertIsNone(tree(light_of(pairs), long))

    def test_six_lamps_that_may_stand_in_any_order(self):
        # Periods of which no two have a common divisor above 1.
        light = light_of([(10 ** 20 + by, 3 * by) for by in (39, 129, 151, 193, 207, 301)])
        told = tree(light, 6)
        self.assertIsNone(check_longest(light, 6, told))
        nodes, waiting = 0, [told]
        while waiting:
            node = waiting.pop()
            nodes += 1
            waiting.extend(below for word, below in node if word == "on")
        self.assertEqual(nodes, 1 + 6 + 30 + 120 + 360 + 720 + 720)

    def test_thousands_of_figures(self):
        far = 10 ** 3000
        told = tree(light_of([(far, 5), (far, far // 2)]), 1)
        self.assertEqual(told, [("on", [("apart", 0)]), ("on", [("apart", 1)])])
        self.assertEqual(tree(light_of([(far, 5), (far + 1, 6)]), far), [("on", [("on", [])]), ("on", [("on", [])])])


class Refused(unittest.TestCase):
    def test_more_than_six_lamps_goes_ahead_of_all_else(self):
        for many in (7, 10):
            for pairs in ([(1, 0)] * many, doubling(many)):
                for long in [0, 5, FORTY, -1] + not_whole():
                    with self.assertRaises(TooMany) as caught:
                        tree(light_of(pairs), long)
                    self.assertEqual(caught.exception.many, 6)

    def test_no_whole_number_from_0_on(self):
        for light in (Light([]), light_of([(1, 0)]), light_of([(2, 0), (3, 0)])):
            for long in [-1, -2, -FORTY] + not_whole():
                with self.assertRaises(NoSize) as caught:
                    tree(light, long)
                self.assertEqual(caught.exception.what, "long")


class Told(unittest.TestCase):
    def test_kinds(self):
        waiting = [tree(light_of([(2, 0), (4, 1), (6, 2)]), 8)]
        while waiting:
            node = waiting.pop()
            self.assertIs(type(node), list)
            for thing in node:
                self.assertIs(type(thing), tuple)
                self.assertEqual(len(thing), 2)
                if thing[0] == "on":
                    waiting.append(thing[1])
                else:
                    self.assertEqual((thing[0], type(thing[1])), ("apart", int))

    def test_new_each_time_and_nothing_changed(self):
        pairs = [(4, 0), (6, 2)]
        light = light_of(pairs)
        wanted = [("on", [("apart", 0)]), ("on", [("apart", 1)])]
        told = tree(light, 1)
        told[0][1].append("more")
        told[1][1].clear()
        told.clear()
        self.assertEqual(tree(light, 1), wanted)
        tree(Light([]), 0).append("more")
        self.assertEqual(tree(Light([]), 0), [])
        told = tree(light_of([(4, 0), (4, 1)]), 2)
        self.assertIsNot(told[0][1][0][1], told[1][1])
        self.assertEqual(fields_of(light), pairs)

    def test_by_name_in_any_order(self):
        self.assertEqual(tree(long=1, light=light_of([(3, 1)])), [("on", [])])


if __name__ == "__main__":
    unittest.main()
