"""Stage 5: nth_dark (5.3), and what 5.4 says of it."""

import unittest

from farlamps.counts import dark_between, nth_dark
from farlamps.errors import NoBeat, NoNumber
from farlamps.lights import Light
from tests.things import (
    doubling, fields_of, light_of, mixed_lights, not_whole, numbers_at, round_of, small_lights,
)

FORTY = 10 ** 39 + 7
COVERING = [(2, 0), (3, 0), (4, 1), (6, 5), (12, 7)]


def counted(pairs, begin):
    """The dark beats of a whole round from begin on."""
    return [beat for beat in range(begin, begin + round_of(pairs)) if not numbers_at(pairs, beat)]


class Counted(unittest.TestCase):
    def assert_told(self, pairs, begin, numbers):
        light, dark, whole = light_of(pairs), counted(pairs, begin), round_of(pairs)
        for number in numbers:
            wanted = ("ever",)
            if dark:
                rounds, place = divmod(number, len(dark))
                wanted = ("dark", dark[place] + rounds * whole)
            self.assertEqual(nth_dark(light, number, begin=begin), wanted, (pairs, number, begin))

    def test_all_small_lights(self):
        for pairs in small_lights(4, 2) + small_lights(3, 3):
            for begin in (-5, 0, 3):
                self.assert_told(pairs, begin, (0, 1, 2, 7, 8, 9, 10, 30))

    def test_every_number_of_some_lights(self):
        for pairs in mixed_lights(51, 20, [1, 2, 3, 4, 5], [2, 3, 4, 5, 6]) + [COVERING, COVERING[1:], COVERING[:4]]:
            for begin in (-41, 6):
                self.assert_told(pairs, begin, range(80))

    def test_mixed_lights_of_many_lamps(self):
        for pairs in mixed_lights(52, 30, [6, 8, 10], [3, 4, 5, 6, 8, 10, 12, 30]):
            for begin in (-100, 17):
                self.assert_told(pairs, begin, (0, 1, 50, 1000, 1023, 1024, 1025, 5000, 100000))

    def test_numbers_of_forty_figures_and_more(self):
        for pairs in mixed_lights(53, 40, [0, 1, 2, 3, 5, 8, 10], [1, 2, 3, 4, 6, 8, 9, 12]) + [COVERING[1:]]:
            for begin in (-7, 0):
                self.assert_told(pairs, begin, (FORTY, 7 * FORTY + 3, FORTY ** 30))

    def test_begin_is_0_where_nothing_is_told(self):
        for pairs in small_lights(3, 2):
            for number in (0, 1, 5, 100):
                self.assertEqual(nth_dark(light_of(pairs), number), nth_dark(light_of(pairs), number, begin=0))
        self.assertEqual(nth_dark(light_of([(4, 0), (4, 1)]), 2), ("dark", 6))


class Edges(unittest.TestCase):
    def test_a_light_without_lamps(self):
        for number in (0, 1, 2, 500, FORTY):
            for begin in (-FORTY, -1, 0, 4):
                self.assertEqual(nth_dark(Light([]), number, begin=begin), ("dark", begin + number))

    def test_a_light_that_is_bright_for_ever(self):
        for pairs in ([(1, 0)], COVERING, [(10, place) for place in range(10)], [(FORTY, 3), (2, 0), (2, 1)]):
            for number in (0, 1, FORTY):
                for begin in (-FORTY, 0, FORTY):
                    self.assertEqual(nth_dark(light_of(pairs), number, begin=begin), ("ever",))

    def test_equal_lamps(self):
        self.assertEqual(nth_dark(light_of([(3, 1)] * 10), 2 * FORTY + 1), ("dark", 3 * FORTY + 2))

    def test_begin_itself_counts(self):
        light = light_of([(3, 1)])
        self.assertEqual(nth_dark(light, 0, begin=2), ("dark", 2))
        self.assertEqual(nth_dark(light, 0, begin=1), ("dark", 2))
        self.assertEqual(nth_dark(light, 1, begin=2), ("dark", 3))
        self.assertEqual(nth_dark(light, 0, begin=-2), ("dark", -1))

    def test_dark_as_rarely_as_can_be(self):
        for many in range(1, 11):
            light, wait = light_of(doubling(many)), 2 ** many
            for number in (0, 1, wait - 1, wait, wait + 1, 3 * wait, FORTY, 10 ** 400):
                self.assertEqual(nth_dark(light, number), ("dark", number * wait))
                self.assertEqual(nth_dark(light, number, begin=1), ("dark", (number + 1) * wait))
                self.assertEqual(nth_dark(light, number, begin=1 - FORTY * wait), ("dark", (number + 1 - FORTY) * wait))

    def test_a_lamp_of_a_great_period(self):
        light = light_of([(FORTY, 5)])
        for number, beat in ((0, 0), (4, 4), (5, 6), (FORTY - 2, FORTY - 1), (FORTY + 3, FORTY + 4),
                             (FORTY + 4, FORTY + 6), (FORTY * (FORTY - 1) + 5, FORTY ** 2 + 6)):
            self.assertEqual(nth_dark(light, number), ("dark", beat))
        self.assertEqual(nth_dark(light, 0, begin=5 - FORTY), ("dark", 6 - FORTY))
        self.assertEqual(nth_dark(light, 1, begin=FORTY + 4), ("dark", FORTY + 6))

    def test_ten_lamps_of_great_periods(self):
        light = light_of([(FORTY + place, place) for place in range(10)])
        self.assertEqual(nth_dark(light, 0), ("dark", 10))
        self.assertEqual(nth_dark(light, FORTY - 11), ("dark", FORTY - 1))
        self.assertEqual(nth_dark(light, FORTY - 10), ("dark", FORTY + 1))
        self.assertEqual(nth_dark(light, FORTY - 9), ("dark", FORTY + 3))
        self.assertEqual(nth_dark(light, 0, begin=-10 ** 90)[0], "dark")

    def test_great_periods_with_common_parts(self):
        light = light_of([(2 * FORTY, 8), (3 * FORTY, 8 + FORTY), (6 * FORTY, 8 + 5 * FORTY)])
        # Bright at the places 0, 1, 2, 4, 5 of six.
        self.assertEqual(nth_dark(light, 3 * FORTY - 3, begin=8), ("dark", 8 + 3 * FORTY))
        self.assertEqual(nth_dark(light, 3 * FORTY - 4, begin=8), ("dark", 8 + 3 * FORTY - 1))
        self.assertEqual(nth_dark(light, 6 * FORTY - 5, begin=8), ("dark", 9 + 6 * FORTY))
        self.assertEqual(nth_dark(light, FORTY * (6 * FORTY - 5), begin=8), ("dark", 9 + 6 * FORTY ** 2))

    def test_thousands_of_figures(self):
        far = 10 ** 1000
        light = light_of([(far, 3), (far + 1, 3), (2, 0)])
        told = nth_dark(light, far ** 3, begin=-far)
        self.assertEqual(told[0], "dark")
        self.assertEqual(dark_between(light, -far, told[1]), far ** 3)
        self.assertFalse(light.is_bright(told[1]))
        self.assertEqual(nth_dark(light, 1), ("dark", 5))

    def test_a_number_of_many_thousand_figures_takes_no_more_steps(self):
        number = 10 ** 20000 + 3
        self.assertEqual(nth_dark(light_of(doubling(10)), number, begin=1), ("dark", (number + 1) * 1024))


class Said(unittest.TestCase):
    LIGHTS = mixed_lights(54, 80, [0, 1, 2, 3, 4, 5, 7, 10], [1, 2, 3, 4, 6, 9, 11, 40, FORTY, 2 * FORTY])

    def test_so_many_are_dark_ahead_of_it_and_it_is_not_far(self):
        for pairs in self.LIGHTS:
            light = light_of(pairs)
            for begin in (-FORTY, 0, 3 * FORTY):
                for number in (0, 1, 30, 2000, FORTY, FORTY ** 4):
                    told = nth_dark(light, number, begin=begin)
                    if told == ("ever",):
                        self.assertEqual(light.next_dark(begin)[0], "ever")
                        continue
                    self.assertEqual(told[0], "dark")
                    self.assertEqual(numbers_at(pairs, told[1]), [])
                    self.assertEqual(dark_between(light, begin, told[1]), number)
                    self.assertTrue(begin <= told[1] < begin + (number + 1) * light.wait())

    def test_number_0_is_the_next_dark_beat(self):
        for pairs in self.LIGHTS:
            light = light_of(pairs)
            for begin in (-FORTY, -1, 0, 1, 5 * FORTY):
                told = light.next_dark(begin)
                wanted = told if told[0] == "dark" else ("ever",)
                self.assertEqual(nth_dark(light, 0, begin=begin), wanted)


class Refused(unittest.TestCase):
    LIGHTS = [Light([]), light_of([(1, 0)]), light_of([(3, 1), (2, 0)])]

    def test_what_is_no_number_from_0_on(self):
        for light in self.LIGHTS:
            for thing in not_whole() + [-1, -2, -FORTY]:
                for begin in (0, -7, None, True, "begin", []):
                    with self.assertRaises(NoNumber) as caught:
                        nth_dark(light, thing, begin=begin)
                    self.assertIs(caught.exception.number, thing)
                with self.assertRaises(NoNumber):
                    nth_dark(light, thing)

    def test_then_what_is_no_beat(self):
        for light in self.LIGHTS:
            for thing in not_whole():
                for number in (0, 1, FORTY):
                    with self.assertRaises(NoBeat) as caught:
                        nth_dark(light, number, begin=thing)
                    self.assertIs(caught.exception.beat, thing)

    def test_begin_is_handed_in_by_its_name_alone(self):
        with self.assertRaises(TypeError):
            nth_dark(self.LIGHTS[2], 0, 0)


class Told(unittest.TestCase):
    def test_kinds(self):
        light = light_of([(2, 0), (3, 1)])
        for told in (nth_dark(light, 0), nth_dark(light, 100), nth_dark(light, FORTY)):
            self.assertIs(type(told), tuple)
            self.assertEqual(len(told), 2)
            self.assertIs(type(told[1]), int)
        self.assertIs(type(nth_dark(light_of([(1, 0)]), 0)), tuple)

    def test_nothing_is_changed(self):
        pairs = [(2, 0), (3, 1)]
        light = light_of(pairs)
        nth_dark(light, 50, begin=9)
        self.assertEqual(fields_of(light), pairs)

    def test_by_name_in_any_order(self):
        light = light_of([(2, 0)])
        self.assertEqual(nth_dark(begin=2, number=1, light=light), ("dark", 5))
        self.assertEqual(nth_dark(number=1, light=light), ("dark", 3))


if __name__ == "__main__":
    unittest.main()
