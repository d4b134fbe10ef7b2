"""Stage 6: stretch_at (6.1)."""

import unittest

from farlamps.errors import NoBeat
from farlamps.lights import Light
from farlamps.stretches import stretch_at
from tests.things import doubling, fields_of, light_of, mixed_lights, not_whole, numbers_at, round_of, small_lights

FORTY = 10 ** 39 + 7


def stretch_by_counting(pairs, beat):
    """The stretch of a beat, gone through beat by beat, a whole round at most."""
    bright = bool(numbers_at(pairs, beat))
    word = "bright" if bright else "dark"
    whole = round_of(pairs)
    if all(bool(numbers_at(pairs, beat + by)) == bright for by in range(whole)):
        return (word, None, None)
    first = last = beat
    while bool(numbers_at(pairs, first - 1)) == bright:
        first -= 1
    while bool(numbers_at(pairs, last + 1)) == bright:
        last += 1
    return (word, first, last)


class Counted(unittest.TestCase):
    def test_all_small_lights(self):
        for pairs in small_lights(4, 2) + small_lights(3, 3):
            light = light_of(pairs)
            for beat in range(-7, 8):
                self.assertEqual(stretch_at(light, beat), stretch_by_counting(pairs, beat), (pairs, beat))

    def test_mixed_lights_of_more_lamps(self):
        for pairs in mixed_lights(61, 150, [3, 4, 5, 7, 10], [2, 3, 4, 5, 6, 8, 12]):
            light = light_of(pairs)
            for beat in (-50, -1, 0, 1, 17, 100):
                self.assertEqual(stretch_at(light, beat), stretch_by_counting(pairs, beat), (pairs, beat))

    def test_each_beat_of_a_stretch_tells_the_same(self):
        for pairs in mixed_lights(62, 40, [2, 3, 4], [3, 4, 6, 9, 10]):
            light = light_of(pairs)
            beat = -20
            word = "none"
            while beat < 20:
                told = stretch_at(light, beat)
                if told[1] is None:
                    break
                self.assertEqual({stretch_at(light, each) for each in range(told[1], told[2] + 1)}, {told})
                # They stand one behind the other, bright and dark by turns.
                self.assertNotEqual(told[0], word)
                word, beat = told[0], told[2] + 1


class Edges(unittest.TestCase):
    def test_a_light_without_lamps(self):
        for beat in (0, -5, FORTY):
            self.assertEqual(stretch_at(Light([]), beat), ("dark", None, None))

    def test_a_light_that_is_bright_for_ever(self):
        for pairs in ([(1, 0)], [(2, 0), (2, 1)], [(10, place) for place in range(10)], [(3 * FORTY, 5), (1, 0)]):
            for beat in (0, -5, FORTY):
                self.assertEqual(stretch_at(light_of(pairs), beat), ("bright", None, None))

    def test_stretches_of_one_beat(self):
        light = light_of([(2, 1)])
        self.assertEqual(stretch_at(light, 0), ("dark", 0, 0))
        self.assertEqual(stretch_at(light, 1), ("bright", 1, 1))
        self.assertEqual(stretch_at(light, -1), ("bright", -1, -1))

    def test_the_longest_that_there_can_be(self):
        for many in range(1, 11):
            light = light_of(doubling(many, 5))
            first, last = 6, 5 + 2 ** many - 1
            for beat in (first, (first + last) // 2, last):
                self.assertEqual(stretch_at(light, beat), ("bright", first, last))
            self.assertEqual(stretch_at(light, 5), ("dark", 5, 5))
            self.assertEqual(stretch_at(light, last + 1), ("dark", last + 1, last + 1))

    def test_dark_stretches_as_long_as_you_like(self):
        light = light_of([(FORTY, 3)])
        for beat in (4, FORTY // 2, FORTY + 2):
            self.assertEqual(stretch_at(light, beat), ("dark", 4, FORTY + 2))
        self.assertEqual(stretch_at(light, 2), ("dark", 4 - FORTY, 2))
        light = light_of([(FORTY, 3), (FORTY + 1, 3)])
        self.assertEqual(stretch_at(light, 4), ("dark", 4, FORTY + 2))
        self.assertEqual(stretch_at(light, FORTY + 3), ("bright", FORTY + 3, FORTY + 4))
        self.assertEqual(stretch_at(light, 0), ("dark", 4 - FORTY, 2))
        self.assertEqual(stretch_at(light, FORTY * (FORTY + 1) + 3),
                         ("bright", FORTY * (FORTY + 1) + 3, FORTY * (FORTY + 1) + 3))

    def test_thousands_of_figures(self):
        far = 10 ** 3000
        light = light_of([(far, 7), (far, 8), (far + 1, 9)])
        self.assertEqual(stretch_at(light, 8), ("bright", 7, 9))
        self.assertEqual(stretch_at(light, 8 + far * (far + 1)), ("bright", 7 + far * (far + 1), 9 + far * (far + 1)))
        self.assertEqual(stretch_at(light, 10 + far * (far + 1))[1:], (10 + far * (far + 1), 6 + far * (far + 2)))


class Refused(unittest.TestCase):
    def test_no_beat(self):
        for light in (Light([]), light_of([(1, 0)]), light_of([(2, 0), (3, 1)])):
            for thing in not_whole():
                with self.assertRaises(NoBeat) as caught:
                    stretch_at(light, thing)
                self.assertIs(caught.exception.beat, thing)


class Told(unittest.TestCase):
    def test_kinds(self):
        light = light_of([(2, 0), (4, 1)])
        for beat in (0, 3):
            told = stretch_at(light, beat)
            self.assertIs(type(told), tuple)
            self.assertEqual([type(part) for part in told], [str, int, int])

    def test_nothing_is_changed(self):
        light = light_of([(2, 0), (4, 1)])
        stretch_at(light, 3)
        self.assertEqual(fields_of(light), [(2, 0), (4, 1)])

    def test_by_name_in_any_order(self):
        self.assertEqual(stretch_at(beat=4, light=light_of([(3, 0)])), ("dark", 4, 5))


if __name__ == "__main__":
    unittest.main()
