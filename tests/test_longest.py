"""Stage 6: longest_bright (6.2), and what 6.6 says of it."""

import unittest
from itertools import combinations, product
from math import gcd, lcm

from farlamps.errors import TooMany
from farlamps.idle import idle
from farlamps.lamps import Lamp
from farlamps.lights import Light, check_ever
from farlamps.stretches import longest_bright, stretch_at
from tests.things import doubling, fields_of, light_of, mixed_lights, numbers_at, pairs_up_to, round_of, small_lights

FORTY = 10 ** 39 + 7


def longest_by_counting(pairs):
    """(long, begin) of the first longest bright stretch from 0 on, counted out over a round; None without an end."""
    whole = round_of(pairs)
    bright = [bool(numbers_at(pairs, beat)) for beat in range(whole)]
    if all(bright):
        return None
    best = (0, 0)
    for begin in range(whole):
        long = 0
        while bright[(begin + long) % whole]:
            long += 1
        if long > best[0] and not bright[begin - 1]:
            best = (long, begin)
    return best


def unlike_parts(periods):
    """Whether no two of these periods have a common divisor above 1, and none is 1."""
    return 1 not in periods and all(gcd(one, other) == 1 for one, other in combinations(periods, 2))


class Counted(unittest.TestCase):
    def assert_told(self, pairs):
        light = light_of(pairs)
        told = longest_bright(light)
        wanted = longest_by_counting(pairs)
        if wanted is None:
            self.assertEqual(told, light.next_dark(0), pairs)
            self.assertEqual(told[0], "ever")
        else:
            self.assertEqual(told, ("stretch",) + wanted, pairs)

    def test_all_small_lights(self):
        for pairs in small_lights(5, 2) + small_lights(3, 3):
            self.assert_told(pairs)

    def test_mixed_lights_of_more_lamps(self):
        for pairs in mixed_lights(63, 300, [3, 4, 5], [2, 3, 4, 6, 8, 12]):
            self.assert_told(pairs)
        for pairs in mixed_lights(64, 200, [4, 5, 6], [3, 4, 5, 6, 8, 10, 12, 16]):
            self.assert_told(pairs)

    def test_periods_without_common_parts(self):
        for pairs in mixed_lights(65, 30, [3, 4], [2, 3, 5, 7, 11]):
            self.assert_told(pairs)
        self.assert_told([(2, 1), (3, 2), (5, 3), (7, 4), (11, 5)])

    def test_all_ways_of_setting_some_periods(self):
        for periods in ((2, 4, 6), (4, 4, 6), (3, 6, 9), (6, 10, 15)):
            for beats in product(*[range(period) for period in periods[1:]]):
                self.assert_told(list(zip(periods, (0,) + beats)))


class Edges(unittest.TestCase):
    def test_a_light_without_lamps(self):
        self.assertEqual(longest_bright(Light([])), ("stretch", 0, 0))

    def test_one_lamp(self):
        for period in (2, 3, 9, FORTY):
            for beat in (0, 1, period - 1):
                self.assertEqual(longest_bright(light_of([(period, beat)])), ("stretch", 1, beat))

    def test_bright_for_ever(self):
        for pairs in ([(1, 0)], [(2, 1), (2, 0)], [(3, 1), (3, 0), (3, 2), (FORTY, 4)],
                      [(2, 0), (4, 1), (8, 3), (8, 7)], [(6, place) for place in range(6)], [(1, 0)] * 6):
            light = light_of(pairs)
            told = longest_bright(light)
            self.assertEqual(told, ("ever", [numbers_at(pairs, beat)[0] for beat in range(2 ** len(pairs))]))
            self.assertIsNone(check_ever(light, 0, told[1]))

    def test_equal_lamps(self):
        self.assertEqual(longest_bright(light_of([(5, 2)] * 6)), ("stretch", 1, 2))
        self.assertEqual(longest_bright(light_of([(5, 2), (5, 3)] * 3)), ("stretch", 2, 2))

    def test_a_stretch_that_goes_over_the_first_beat(self):
        # Bright at -1, 0, 1 and so on: the first such begin from 0 on is a round further.
        self.assertEqual(longest_bright(light_of([(10, 9), (10, 0), (10, 1)])), ("stretch", 3, 9))
        self.assertEqual(longest_bright(light_of([(FORTY, FORTY - 1), (FORTY, 0)])), ("stretch", 2, FORTY - 1))

    def test_a_begin_nearly_as_far_as_the_round_is_long(self):
        for period in (3, 5, 12, FORTY):
            # The one ahead of the other only at the last beat of the round; the other ahead of the one a bit earlier.
            light = light_of([(period, -1), (period + 1, 0)])
            self.assertEqual(longest_bright(light), ("stretch", 2, (period + 1) * (period - 2)))
        # Two pairs of which each can be in two orders, in a round of more than 240 figures.
        periods = [2 * (10 ** 60 + by) for by in (7, 9, 13, 19)]
        pairs = list(zip(periods, (-2, -1, -2, -1)))
        told = longest_bright(light_of(pairs))
        self.assertEqual(told[1], 4)
        self.assertEqual(stretch_at(light_of(pairs), told[2]), ("bright", told[2], told[2] + 3))
        self.assertGreater(told[2], 10 ** 230)

    def test_the_last_beat_of_a_round(self):
        # By their common divisor 3 the lamps can be side by side in one order only.
        for first, last in ((FORTY, FORTY + 1), (10 ** 60 + 7, 10 ** 60 + 8)):
            whole = 3 * first * last
            light = light_of([(3 * first, -1), (3 * last, 0), (3 * first, 1)])
            self.assertEqual(longest_bright(light), ("stretch", 3, whole - 1))

    def test_great_periods_without_common_parts(self):
        pairs = [(FORTY + by, by * by) for by in range(6)]
        self.assertTrue(unlike_parts([FORTY, FORTY + 1]))
        light = light_of(pairs)
        told = longest_bright(light)
        self.assertEqual(stretch_at(light, told[2]), ("bright", told[2], told[2] + told[1] - 1))

    def test_the_first_of_all_that_are_as_long(self):
        # Six in any order: the first begin is the least of 720, each by the rests of the periods.
        periods = [10 ** 20 + by for by in (39, 129, 151, 193, 207, 301)]
        self.assertTrue(unlike_parts(periods))
        beats = [7, 77, 777, 7777, 77777, 777777]
        light = light_of(list(zip(periods, beats)))
        whole = lcm(*periods)
        found = whole
        taken = [whole // period * pow(whole // period, -1, period) for period in periods]
        for beat in (sum(part * (at - by) for part, at, by in zip(taken, beats, order)) % whole
                     for order in product(range(6), repeat=6) if len(set(order)) == 6):
            found = min(found, beat)
        self.assertEqual(longest_bright(light), ("stretch", 6, found))

    def test_thousands_of_figures(self):
        far = 10 ** 3000
        light = light_of([(far, 7), (far, 9), (far + 1, 8)])
        self.assertEqual(longest_bright(light), ("stretch", 3, 7))
        light = light_of([(far, far - 1), (far, 0), (2 * far, 1), (far, 3)])
        self.assertEqual(longest_bright(light), ("stretch", 3, 2 * far - 1))
        pairs = [(far + by, far // (by + 3)) for by in range(6)]
        told = longest_bright(light_of(pairs))
        self.assertEqual(stretch_at(light_of(pairs), told[2]), ("bright", told[2], told[2] + told[1] - 1))


class Refused(unittest.TestCase):
    def test_more_than_six_lamps(self):
        for many in (7, 8, 9, 10):
            for pairs in ([(1, 0)] * many, doubling(many), [(FORTY, place) for place in range(many)]):
                with self.assertRaises(TooMany) as caught:
                    longest_bright(light_of(pairs))
                self.assertEqual(caught.exception.many, 6)

    def test_six_lamps_are_not_too_many(self):
        self.assertEqual(longest_bright(light_of(doubling(6))), ("stretch", 63, 1))


class Said(unittest.TestCase):
    def test_the_longest_of_all_lights_of_so_many_lamps(self):
        for many in range(7):
            for by in (0, 5, -9):
                told = longest_bright(light_of(doubling(many, by)))
                self.assertEqual(told[:2], ("stretch", 2 ** many - 1))
                self.assertEqual(told[2], (by + 1) % 2 ** many if many else 0)
        for pairs in mixed_lights(66, 300, [0, 1, 2, 3, 4, 5, 6], [2, 3, 4, 6, 7, 8, 16, 32, 64]):
            told = longest_bright(light_of(pairs))
            if told[0] == "stretch":
                self.assertLess(told[1], 2 ** len(pairs))

    def test_without_common_parts_it_hangs_on_the_periods_alone(self):
        for periods in ((2, 3), (2, 5), (3, 4), (2, 3, 5), (3, 4, 5), (2, 7, 9), (4, 5, 7), (2, 3, 5, 7), (3, 4, 5, 7),
                        (5, 6, 7, 11), (FORTY, FORTY + 1), (3, FORTY, FORTY + 1)):
            if not unlike_parts(periods):
                continue
            longs = set()
            for beats in ((0,) * 4, (1, 2, 3, 4), (3, 1, 2, 0), (9, 8, 7, 6), (FORTY, 5, 5 * FORTY, 1)):
                longs.add(longest_bright(light_of(list(zip(periods, beats))))[1])
            self.assertEqual(len(longs), 1, periods)
            long = longs.pop()
            self.assertGreaterEqual(long, len(periods))
            if min(periods) > len(periods):
                self.assertEqual(long, len(periods))

    def test_just_as_long_as_there_are_lamps(self):
        for periods in ((7, 8, 9, 11, 13, 17), (7, 9, 10, 11, 13, 17), (11, 13, 17, 19, 23, 29)):
            self.assertTrue(unlike_parts(periods))
            for many in range(1, 7):
                told = longest_bright(light_of([(period, 3) for period in periods[:many]]))
                self.assertEqual(told[:2], ("stretch", many))

    def test_a_lamp_more_makes_it_no_shorter(self):
        for pairs in mixed_lights(67, 60, [0, 1, 2, 3, 4], [2, 3, 4, 5, 6, 8]):
            told = longest_bright(light_of(pairs))
            if told[0] == "ever":
                continue
            for more in pairs_up_to(6):
                longer = longest_bright(light_of(pairs + [more]))
                if longer[0] == "stretch":
                    self.assertGreaterEqual(longer[1], told[1])

    def test_a_lamp_that_shines_right_behind_makes_it_longer(self):
        for pairs in mixed_lights(68, 100, [0, 1, 2, 3, 4, 5], [2, 3, 4, 5, 6, 8, FORTY]):
            told = longest_bright(light_of(pairs))
            if told[0] == "ever":
                continue
            for period in (2, 5, 6, 2 * FORTY):
                longer = longest_bright(light_of(pairs + [(period, told[2] + told[1])]))
                if longer[0] == "stretch":
                    self.assertGreater(longer[1], told[1])

    def test_an_idle_lamp_that_goes_leaves_it(self):
        seen = 0
        for pairs in mixed_lights(69, 300, [2, 3, 4, 5, 6], [2, 3, 4, 6, 12, 3 * FORTY]):
            told = longest_bright(light_of(pairs))
            for number in idle(light_of(pairs)):
                left = longest_bright(light_of(pairs[:number] + pairs[number + 1:]))
                self.assertEqual(left[0], told[0])
                if told[0] == "stretch":
                    self.assertEqual(left, told)
                    seen += 1
        self.assertGreater(seen, 50)


class Told(unittest.TestCase):
    def test_kinds(self):
        told = longest_bright(light_of([(2, 0), (3, 1)]))
        self.assertIs(type(told), tuple)
        self.assertEqual([type(part) for part in told], [str, int, int])
        told = longest_bright(light_of([(1, 0)]))
        self.assertEqual([type(part) for part in told], [str, list])

    def test_new_each_time_and_nothing_changed(self):
        light = Light([Lamp(2, 0), Lamp(2, 1)])
        longest_bright(light)[1].append("more")
        self.assertEqual(longest_bright(light), ("ever", [0, 1, 0, 1]))
        self.assertEqual(fields_of(light), [(2, 0), (2, 1)])

    def test_by_name(self):
        self.assertEqual(longest_bright(light=light_of([(3, 1)])), ("stretch", 1, 1))


if __name__ == "__main__":
    unittest.main()
