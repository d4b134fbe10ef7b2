"""Stage 5: dark_between and by_many (5.1), share (5.2), and what 5.4 says of them."""

import unittest
from fractions import Fraction
from math import gcd, prod

from farlamps.counts import by_many, dark_between, share
from farlamps.errors import NoBeat
from farlamps.lights import Light
from tests.things import (
    doubling, fields_of, light_of, mixed_lights, not_whole, numbers_at, round_of, small_lights,
)

FORTY = 10 ** 39 + 7
COVERING = [(2, 0), (3, 0), (4, 1), (6, 5), (12, 7)]
# No two have a common divisor above 1.
APART = [10 ** 39 + 3, 10 ** 39 + 4, 10 ** 39 + 7, 10 ** 39 + 9]


def counted(pairs, begin, end):
    """What by_many is to tell, beat by beat."""
    told = [0] * (len(pairs) + 1)
    for beat in range(begin, end):
        told[len(numbers_at(pairs, beat))] += 1
    return told


def counted_far(pairs, begin, end):
    """The same of a long stretch: whole rounds, and what is left beat by beat."""
    whole = round_of(pairs)
    rounds, more = divmod(end - begin, whole)
    begin %= whole
    return [rounds * one + other
            for one, other in zip(counted(pairs, 0, whole), counted(pairs, begin, begin + more))]


def multiplied(periods):
    """Of lamps of periods without common divisors, at how many beats of a common round 0, 1, 2 .. shine."""
    told = [1]
    for period in periods:
        told = [dark * (period - 1) + bright for dark, bright in zip(told + [0], [0] + told)]
    return told


class Counted(unittest.TestCase):
    def assert_told(self, pairs, begin, end):
        wanted = counted(pairs, begin, end)
        self.assertEqual(by_many(light_of(pairs), begin, end), wanted, (pairs, begin, end))
        self.assertEqual(dark_between(light_of(pairs), begin, end), wanted[0], (pairs, begin, end))

    def test_short_stretches_of_all_small_lights(self):
        for pairs in small_lights(4, 2):
            for begin in (-5, -1, 0, 2):
                for long in range(14):
                    self.assert_told(pairs, begin, begin + long)

    def test_small_lights_of_three_lamps(self):
        for pairs in small_lights(3, 3):
            for begin, end in ((-7, 0), (0, 6), (1, 2), (-1, 12)):
                self.assert_told(pairs, begin, end)

    def test_mixed_lights(self):
        for pairs in mixed_lights(41, 150, [3, 4, 5, 6], [1, 2, 3, 4, 5, 6, 9, 12, 50]) + [COVERING]:
            for begin, end in ((-30, 31), (0, 1), (7, 100)):
                self.assert_told(pairs, begin, end)

    def test_mixed_lights_of_many_lamps(self):
        for pairs in mixed_lights(42, 30, [7, 8, 9, 10], [2, 3, 4, 5, 6, 7, 8, 12, 30]):
            for begin, end in ((-100, 200), (3, 40)):
                self.assert_told(pairs, begin, end)

    def test_stretches_of_forty_figures(self):
        for pairs in mixed_lights(43, 100, [0, 1, 2, 3, 4, 8, 10], [1, 2, 3, 4, 6, 8, 12]) + [COVERING]:
            light = light_of(pairs)
            for begin, end in ((0, FORTY), (-FORTY, 5 * FORTY), (FORTY, 2 * FORTY + 11), (-7 * FORTY, -FORTY)):
                wanted = counted_far(pairs, begin, end)
                self.assertEqual(by_many(light, begin, end), wanted)
                self.assertEqual(dark_between(light, begin, end), wanted[0])


class Edges(unittest.TestCase):
    def test_a_light_without_lamps(self):
        for begin, end in ((0, 0), (0, 1), (-3, 4), (-FORTY, FORTY), (5, 4)):
            long = max(0, end - begin)
            self.assertEqual(by_many(Light([]), begin, end), [long])
            self.assertEqual(dark_between(Light([]), begin, end), long)

    def test_an_end_that_is_not_above_begin(self):
        for pairs in ([], [(1, 0)], [(2, 0), (2, 1)], [(3, 2), (5, 1), (FORTY, 4)], doubling(10)):
            light = light_of(pairs)
            for begin, end in ((0, 0), (1, 0), (0, -1), (5, -5), (FORTY, FORTY), (FORTY, -FORTY), (-FORTY, -2 * FORTY)):
                self.assertEqual(by_many(light, begin, end), [0] * (len(pairs) + 1))
                self.assertEqual(dark_between(light, begin, end), 0)

    def test_a_stretch_of_one_beat(self):
        pairs = [(4, 1), (6, 3), (9, 0), (9, 0)]
        for beat in range(-36, 37):
            wanted = [0] * 5
            wanted[len(numbers_at(pairs, beat))] = 1
            self.assertEqual(by_many(light_of(pairs), beat, beat + 1), wanted)

    def test_equal_lamps_are_counted_each(self):
        for many in range(1, 11):
            light = light_of([(3, 1)] * many)
            self.assertEqual(by_many(light, 0, 9), [6] + [0] * (many - 1) + [3])
            self.assertEqual(dark_between(light, 0, 9 * FORTY), 6 * FORTY)

    def test_a_light_that_is_bright_for_ever(self):
        light = light_of([(10, place) for place in range(10)])
        self.assertEqual(by_many(light, -FORTY, FORTY), [0, 2 * FORTY] + [0] * 9)
        self.assertEqual(dark_between(light_of(COVERING), -FORTY, FORTY), 0)
        self.assertEqual(dark_between(light_of([(1, 0), (FORTY, 4)]), 0, FORTY ** 2), 0)

    def test_great_periods_without_common_parts(self):
        for many in range(1, 5):
            periods = APART[:many]
            for one in periods:
                self.assertEqual([gcd(one, other) for other in periods if other != one], [1] * (many - 1))
            whole = prod(periods)
            pairs = [(period, 17 * place * FORTY + 5) for place, period in enumerate(periods)]
            for begin in (0, -whole + 8, 10 ** 200):
                self.assertEqual(by_many(light_of(pairs), begin, begin + whole), multiplied(periods))
                self.assertEqual(dark_between(light_of(pairs), begin, begin + 3 * whole), 3 * multiplied(periods)[0])

    def test_just_the_beats_at_which_all_meet(self):
        pairs = [(period, 12) for period in APART]
        light, whole = light_of(pairs), prod(APART)
        self.assertEqual(by_many(light, 12, 13), [0, 0, 0, 0, 1])
        self.assertEqual(by_many(light, 11, 14), [2, 0, 0, 0, 1])
        self.assertEqual(by_many(light, 12, 12 + whole + 1)[4], 2)
        self.assertEqual(by_many(light, 13, 12 + whole + 1)[4], 1)
        self.assertEqual(by_many(light, 13, 12 + whole)[4], 0)
        self.assertEqual(by_many(light, 12 - whole, 13)[4], 2)

    def test_ten_lamps_of_great_periods_in_a_short_stretch(self):
        light = light_of([(FORTY + place, place) for place in range(10)])
        self.assertEqual(by_many(light, 0, FORTY), [FORTY - 10, 10] + [0] * 9)
        # At -FORTY all of them meet.
        self.assertEqual(dark_between(light, -FORTY, FORTY), 2 * FORTY - 11)

    def test_ten_lamps_of_great_periods_in_a_long_stretch(self):
        # Each is one of the primes from 2 to 29, taken often enough to have forty figures.
        periods = [2 ** 130, 3 ** 82, 5 ** 56, 7 ** 46, 11 ** 38, 13 ** 35, 17 ** 32, 19 ** 31, 23 ** 29, 29 ** 27]
        light, whole = light_of([(period, 3 * place) for place, period in enumerate(periods)]), prod(periods)
        self.assertEqual(by_many(light, 5 - whole, 5), multiplied(periods))
        self.assertEqual(share(light), (multiplied(periods)[0] // gcd(multiplied(periods)[0], whole),
                                        whole // gcd(multiplied(periods)[0], whole)))

    def test_great_periods_with_common_parts(self):
        for pairs in mixed_lights(44, 30, [2, 3, 4, 7], [1, 2, 3, 4, 6, 9]):
            light = light_of([(period * FORTY, beat * FORTY + 8) for period, beat in pairs])
            for begin, end in ((-5, 7), (0, 36), (-50, 0)):
                wanted = counted(pairs, begin, end)
                wanted[0] += (end - begin) * (FORTY - 1)
                self.assertEqual(by_many(light, 8 + begin * FORTY, 8 + end * FORTY), wanted)
                self.assertEqual(by_many(light, 8 + (begin - 1) * FORTY + 1, 8 + (end - 1) * FORTY + 1), wanted)

    def test_periods_that_only_some_share(self):
        pairs = [(6 * FORTY, 1), (10 * FORTY, 1), (15 * FORTY, 1 + FORTY)]
        # The first meets the second one at each 30 * FORTY; neither ever meets the third one then.
        self.assertEqual(by_many(light_of(pairs), 0, 30 * FORTY),
                         counted_parts({1 + FORTY * 6 * place for place in range(5)},
                                       {1 + FORTY * 10 * place for place in range(3)},
                                       {1 + FORTY + FORTY * 15 * place for place in range(2)}, 30 * FORTY))

    def test_thousands_of_figures(self):
        far = 10 ** 2000
        light = light_of([(far, 1), (far + 1, 1), (3 * far, 1)])
        whole = 3 * far * (far + 1)
        self.assertEqual(by_many(light, 0, whole), [whole - 6 * far, 5 * far - 3, far + 2, 1])


def counted_parts(one, other, third, long):
    """At how many of long beats 0, 1, 2, 3 of three sets of beats are met."""
    beats = [*one, *other, *third]
    often = [beats.count(beat) for beat in set(beats)]
    return [long - len(often), often.count(1), often.count(2), often.count(3)]


class Share(unittest.TestCase):
    def test_all_small_lights(self):
        for pairs in small_lights(4, 2) + small_lights(3, 3) + [COVERING, COVERING[1:]]:
            whole = round_of(pairs)
            wanted = Fraction(counted(pairs, 0, whole)[0], whole)
            self.assertEqual(share(light_of(pairs)), (wanted.numerator, wanted.denominator), pairs)

    def test_mixed_lights(self):
        for pairs in mixed_lights(45, 80, [4, 5, 6, 8, 10], [2, 3, 4, 5, 6, 9, 12, 20]):
            whole = round_of(pairs)
            wanted = Fraction(counted(pairs, 0, whole)[0], whole)
            self.assertEqual(share(light_of(pairs)), (wanted.numerator, wanted.denominator), pairs)

    def test_bright_for_ever_and_without_lamps(self):
        self.assertEqual(share(Light([])), (1, 1))
        for pairs in ([(1, 0)], COVERING, [(10, place) for place in range(10)], [(FORTY, 3), (1, 0)]):
            self.assertEqual(share(light_of(pairs)), (0, 1))

    def test_without_a_common_divisor(self):
        self.assertEqual(share(light_of([(4, 0), (4, 2)])), (1, 2))
        self.assertEqual(share(light_of([(4, 1), (6, 2)])), (7, 12))
        self.assertEqual(share(light_of([(6, 0), (6, 1), (6, 2), (6, 3)])), (1, 3))
        self.assertEqual(share(light_of(doubling(10))), (1, 1024))

    def test_great_periods(self):
        self.assertEqual(share(light_of([(FORTY, 5)])), (FORTY - 1, FORTY))
        self.assertEqual(share(light_of([(2 * FORTY, 5), (2 * FORTY, 5 + FORTY)])), (FORTY - 1, FORTY))
        for many in range(1, 5):
            wanted = Fraction(multiplied(APART[:many])[0], prod(APART[:many]))
            light = light_of([(period, 4 * period + 9) for period in APART[:many]])
            self.assertEqual(share(light), (wanted.numerator, wanted.denominator))

    def test_of_as_many_beats_as_a_multiple_of_all_periods_just_this_part_is_dark(self):
        for pairs in mixed_lights(46, 60, [0, 1, 2, 3, 5, 7], [1, 2, 3, 4, 6, FORTY, 2 * FORTY, 3 * FORTY]):
            light = light_of(pairs)
            part, of = share(light)
            for long in (round_of(pairs), 5 * round_of(pairs), FORTY * round_of(pairs)):
                for begin in (0, -3, FORTY):
                    self.assertEqual(dark_between(light, begin, begin + long) * of, part * long)


class Said(unittest.TestCase):
    LIGHTS = mixed_lights(47, 60, [0, 1, 2, 3, 4, 5, 7, 10], [1, 2, 3, 4, 6, 9, 11, 40, FORTY, 2 * FORTY])
    STRETCHES = [(0, 1), (-3, 50), (5, 4), (7, 2000), (-FORTY, FORTY + 3), (FORTY, FORTY ** 3), (-FORTY ** 15, 6)]

    def test_the_numbers_of_by_many_come_together(self):
        for pairs in self.LIGHTS:
            light = light_of(pairs)
            for begin, end in self.STRETCHES:
                told = by_many(light, begin, end)
                self.assertEqual(len(told), len(pairs) + 1)
                self.assertEqual(sum(told), max(0, end - begin))
                last = max(begin, end) - 1
                often = [(last - beat) // period - (begin - 1 - beat) // period for period, beat in pairs]
                self.assertEqual(sum(place * number for place, number in enumerate(told)), sum(often))
                self.assertEqual(told[0], dark_between(light, begin, end))
                self.assertGreaterEqual(min(told), 0)

    def test_each_wait_beats_have_a_dark_one(self):
        for pairs in self.LIGHTS:
            light = light_of(pairs)
            if light.next_dark(0)[0] == "dark":
                for begin, end in self.STRETCHES:
                    self.assertGreaterEqual(dark_between(light, begin, end), max(0, end - begin) // light.wait())
                part, of = share(light)
                self.assertGreaterEqual(part * light.wait(), of)
            else:
                self.assertEqual(share(light), (0, 1))

    def test_dark_beats_differ_little_from_the_share(self):
        for pairs in self.LIGHTS:
            light = light_of(pairs)
            part, of = share(light)
            for begin, end in self.STRETCHES:
                differ = dark_between(light, begin, end) * of - part * max(0, end - begin)
                self.assertLess(abs(differ), light.wait() * of)


class Refused(unittest.TestCase):
    def test_what_is_no_beat_begin_ahead_of_end(self):
        for light in (Light([]), light_of([(1, 0)]), light_of([(3, 1), (2, 0)])):
            for ask in (dark_between, by_many):
                for thing in not_whole():
                    for other in (0, 5, -FORTY, None, True, [], "end"):
                        with self.assertRaises(NoBeat) as caught:
                            ask(light, thing, other)
                        self.assertIs(caught.exception.beat, thing)
                    for begin in (0, -4, FORTY):
                        with self.assertRaises(NoBeat) as caught:
                            ask(light, begin, thing)
                        self.assertIs(caught.exception.beat, thing)


class Told(unittest.TestCase):
    def test_kinds(self):
        light = light_of([(2, 0), (3, 1)])
        self.assertIs(type(by_many(light, 0, 5)), list)
        for number in by_many(light, 0, 5) + by_many(light, 5, 0) + [dark_between(light, 0, 5)] + list(share(light)):
            self.assertIs(type(number), int)
        self.assertIs(type(share(light)), tuple)

    def test_new_each_time_and_nothing_changed(self):
        pairs = [(2, 0), (3, 1)]
        light = light_of(pairs)
        by_many(light, 0, 6).append(5)
        by_many(light, 0, 6)[0] = 9
        self.assertEqual(by_many(light, 0, 6), [2, 3, 1])
        dark_between(light, 0, 6)
        share(light)
        self.assertEqual(fields_of(light), pairs)

    def test_by_name_in_any_order(self):
        light = light_of([(2, 0), (3, 1)])
        self.assertEqual(dark_between(end=6, begin=1, light=light), 2)
        self.assertEqual(by_many(begin=1, end=6, light=light), [2, 2, 1])
        self.assertEqual(share(light=light), (1, 3))


if __name__ == "__main__":
    unittest.main()
