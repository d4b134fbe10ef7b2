"""check_ever (2.4): papers that show that a light is bright for ever, and those that do not."""

import unittest
from itertools import product

from farlamps.errors import NoBeat, NoPaper
from farlamps.lights import Light, check_ever
from tests.things import Hostile, doubling, light_of, not_whole, numbers_at, small_lights

FORTY = 10 ** 39 + 7

EVEN_AND_ODD = light_of([(2, 0), (2, 1)])


class Good(unittest.TestCase):
    def test_told_papers_of_all_small_lights(self):
        for pairs in small_lights(3, 3):
            light = light_of(pairs)
            for begin in (-7, 0, 4):
                word, told = light.next_dark(begin)
                if word == "ever":
                    self.assertIsNone(check_ever(light, begin, told))
                    back = light.last_dark(begin)[1]
                    self.assertIsNone(check_ever(light, begin - light.wait() + 1, back))

    def test_any_lamp_that_shines_may_be_named(self):
        light = light_of([(2, 0), (1, 0), (2, 0)])
        for paper in ([0, 1, 2, 1, 1, 1, 0, 1], [2, 1, 2, 1, 2, 1, 2, 1], [1] * 8):
            self.assertIsNone(check_ever(light, 0, paper))

    def test_begins_below_0_and_far_away(self):
        self.assertIsNone(check_ever(EVEN_AND_ODD, -3, [1, 0, 1, 0]))
        self.assertIsNone(check_ever(EVEN_AND_ODD, 10 ** 40, [0, 1, 0, 1]))
        light = light_of([(10, FORTY + place) for place in range(10)])
        self.assertIsNone(check_ever(light, FORTY, [place % 10 for place in range(1024)]))
        self.assertIsNone(check_ever(light, FORTY - 10 ** 90, light.next_dark(FORTY - 10 ** 90)[1]))

    def test_by_name_in_any_order(self):
        self.assertIsNone(check_ever(paper=[0, 1, 0, 1], begin=0, light=EVEN_AND_ODD))

    def test_the_beat_is_not_bound_to_the_kept_one(self):
        self.assertIsNone(check_ever(light_of([(3, 2), (3, 0), (3, 1)]), 2, [0, 1, 2, 0, 1, 2, 0, 1]))


class Refused(unittest.TestCase):
    def assert_at(self, at, light, begin, paper):
        with self.assertRaises(NoPaper) as caught:
            check_ever(light, begin, paper)
        self.assertEqual(caught.exception.at, at)
        self.assertIs(type(caught.exception.at), int)

    def test_what_is_no_beat_comes_first(self):
        for thing in not_whole():
            for paper in ([0, 1, 0, 1], [], None, [9], Hostile()):
                with self.assertRaises(NoBeat) as caught:
                    check_ever(EVEN_AND_ODD, thing, paper)
                self.assertIs(caught.exception.beat, thing)

    def test_what_is_no_list(self):
        for thing in (None, True, 0, 4, "0101", b"\x00\x01", (0, 1, 0, 1), {0: 0, 1: 1, 2: 0, 3: 1}, {0, 1},
                      range(2), iter([0, 1, 0, 1]), object(), list, Hostile()):
            self.assert_at(-1, EVEN_AND_ODD, 0, thing)

    def test_every_short_list_of_small_numbers(self):
        pairs = [(2, 0), (3, 1)]
        for begin in (-1, 0):
            for many in range(6):
                for told in product((-1, 0, 1, 2), repeat=many):
                    wrong = [place for place, number in enumerate(told[:4])
                             if number not in numbers_at(pairs, begin + place)]
                    wanted = wrong[0] if wrong else min(many, 4)
                    self.assert_at(wanted, light_of(pairs), begin, list(told))

    def test_a_thing_that_is_no_number(self):
        for thing in not_whole():
            for place in range(4):
                paper = [0, 1, 0, 1]
                paper[place] = thing
                self.assert_at(place, EVEN_AND_ODD, 0, paper)

    def test_truths_are_no_numbers(self):
        self.assert_at(0, EVEN_AND_ODD, 0, [False, 1, 0, 1])
        self.assert_at(1, EVEN_AND_ODD, 0, [0, True, 0, 1])
        self.assert_at(1, light_of([(1, 0)]), 0, [0, False])

    def test_a_number_of_no_lamp(self):
        light = light_of([(1, 0), (1, 0)])
        for number in (-2, -1, 2, 3, FORTY, -FORTY):
            self.assert_at(3, light, 0, [0, 1, 1, number])
            self.assert_at(0, light, 0, [number, 1, 1, number])

    def test_a_lamp_that_does_not_shine_then(self):
        self.assert_at(0, EVEN_AND_ODD, 1, [0, 1, 0, 1])
        self.assert_at(2, EVEN_AND_ODD, 0, [0, 1, 1, 0])
        self.assert_at(3, EVEN_AND_ODD, -FORTY - 1, [0, 1, 0, 0])

    def test_too_short(self):
        for many in range(4):
            self.assert_at(many, EVEN_AND_ODD, 0, [0, 1, 0, 1][:many])

    def test_too_long(self):
        self.assert_at(4, EVEN_AND_ODD, 0, [0, 1, 0, 1, 0])
        self.assert_at(4, EVEN_AND_ODD, 0, [0, 1, 0, 1, 0, 1, 0])
        self.assert_at(4, EVEN_AND_ODD, 0, [0, 1, 0, 1, 1])
        self.assert_at(4, EVEN_AND_ODD, 0, [0, 1, 0, 1, 0, None])

    def test_a_wrong_thing_goes_ahead_of_the_length(self):
        self.assert_at(1, EVEN_AND_ODD, 0, [0, 0])
        self.assert_at(0, EVEN_AND_ODD, 0, [None])
        self.assert_at(2, EVEN_AND_ODD, 0, [0, 1, "0", 1, 0])
        self.assert_at(3, EVEN_AND_ODD, 0, [0, 1, 0, [], 0])

    def test_a_light_of_no_lamps(self):
        self.assert_at(0, Light([]), 0, [])
        self.assert_at(0, Light([]), 0, [0])
        self.assert_at(0, Light([]), 5, [0, 0])
        self.assert_at(-1, Light([]), 5, ())

    def test_a_light_that_is_dark_at_the_last_beat_only(self):
        for many in (1, 2, 5, 10):
            light = light_of(doubling(many))
            wait = light.wait()
            paper = [light.shining(beat)[0] for beat in range(1, wait)]
            self.assert_at(wait - 1, light, 1, paper)
            for number in range(many):
                self.assert_at(wait - 1, light, 1, paper + [number])

    def test_ten_lamps_too_long_and_too_short(self):
        light = light_of([(10, place) for place in range(10)])
        paper = light.next_dark(0)[1]
        self.assert_at(1023, light, 0, paper[:-1])
        self.assert_at(1024, light, 0, paper + [4])
        self.assert_at(1023, light, 0, paper[:-1] + [4])
        self.assert_at(0, light, 0, [])


if __name__ == "__main__":
    unittest.main()
