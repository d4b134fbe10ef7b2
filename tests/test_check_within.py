"""Stage 4: check_within (4.5): papers that show that a light is within another one (4.2), and those that do not."""

import unittest
from copy import deepcopy
from itertools import product

from farlamps.errors import NoPaper
from farlamps.lights import Light
from farlamps.parting import check_within, within
from tests.things import Hostile, doubling, fields_of, light_of, not_whole, numbers_at, small_lights

FORTY = 10 ** 39 + 7

# The own beats of the one's lamps are 1, 4, 7, 10 and 2, 4, 6, 8.
ONE = [(3, 1), (2, 0)]
OTHER = [(2, 1), (2, 0)]
GOOD = [[0, 1, 0, 1], [1, 1, 1, 1]]


class Good(unittest.TestCase):
    def test_told_papers_of_small_lights(self):
        every = small_lights(3, 2)
        for one in every:
            for other in every:
                told = within(light_of(one), light_of(other))
                if told[0] == "within":
                    self.assertIsNone(check_within(light_of(one), light_of(other), told[1]))

    def test_any_lamp_that_shines_may_be_named(self):
        other = [(2, 0), (1, 0)]
        for first, last in product(product([0, 1], [1], [0, 1], [1]), product([0, 1], repeat=4)):
            papers = [list(first), list(last)]
            self.assertIsNone(check_within(light_of([(3, 2), (4, 0)]), light_of(other), papers))

    def test_no_lamps(self):
        self.assertIsNone(check_within(Light([]), Light([]), []))
        self.assertIsNone(check_within(Light([]), light_of(OTHER), []))

    def test_great_periods_and_many_lamps(self):
        one = light_of([(FORTY, 5), (2 * FORTY, 5)])
        other = light_of([(2 * FORTY, 5), (2 * FORTY, 5 + FORTY)])
        self.assertIsNone(check_within(one, other, [[0, 1, 0, 1], [0, 0, 0, 0]]))
        many = light_of([(10, place) for place in range(10)])
        self.assertIsNone(check_within(many, many, [[place] * 1024 for place in range(10)]))
        self.assertIsNone(check_within(light_of([(1, 0)]), many, [[place % 10 for place in range(1024)]]))

    def test_by_name_in_any_order(self):
        self.assertIsNone(check_within(papers=GOOD, other=light_of(OTHER), one=light_of(ONE)))


class Refused(unittest.TestCase):
    def assert_at(self, at, papers, one=None, other=None):
        with self.assertRaises(NoPaper) as caught:
            check_within(light_of(ONE if one is None else one), light_of(OTHER if other is None else other), papers)
        self.assertEqual(caught.exception.at, at)
        self.assertIs(type(caught.exception.at), int)

    def test_the_good_ones_are_not(self):
        self.assertEqual(within(light_of(ONE), light_of(OTHER)), ("within", GOOD))
        self.assertIsNone(check_within(light_of(ONE), light_of(OTHER), GOOD))

    def test_what_is_no_list_of_as_many_things(self):
        for thing in (None, True, 0, 2, "", "ab", b"ab", {}, {0: GOOD[0], 1: GOOD[1]}, set(), range(2), tuple(GOOD),
                      (), iter(GOOD), object(), list, Hostile(), [], GOOD[:1], GOOD + [[1] * 4], GOOD + GOOD):
            self.assert_at(-1, thing)
        for thing in (None, (), [[]], [[0]], [[0] * 4], {}):
            self.assert_at(-1, thing, one=[])

    def test_a_thing_that_is_no_list_of_as_many_numbers(self):
        for thing in (None, True, 4, "0101", b"\x00\x01\x00\x01", (0, 1, 0, 1), {0: 0, 1: 1, 2: 0, 3: 1}, {0, 1},
                      range(4), [], [0], [0, 1, 0], [0, 1, 0, 1, 0], [0, 1] * 4, Hostile()):
            self.assert_at(-1, [thing, GOOD[1]])
            self.assert_at(-1, [GOOD[0], thing])
            self.assert_at(-1, [thing, thing])

    def test_the_form_goes_ahead_of_what_stands_in_it(self):
        self.assert_at(-1, [[9, 9, 9, 9], [1, 1, 1]])
        self.assert_at(-1, [[None] * 4, None])
        self.assert_at(-1, [[9] * 4, GOOD[1], GOOD[1]])
        self.assert_at(-1, [[9] * 4, tuple(GOOD[1])])

    def test_a_thing_that_is_no_number(self):
        for thing in not_whole():
            for number, place in product(range(2), range(4)):
                papers = deepcopy(GOOD)
                papers[number][place] = thing
                self.assert_at(number, papers)

    def test_truths_are_no_numbers(self):
        self.assert_at(0, [[0, True, 0, 1], GOOD[1]])
        self.assert_at(0, [[False, 1, 0, 1], GOOD[1]])
        self.assert_at(1, [GOOD[0], [1, 1, 1, True]])

    def test_a_number_of_no_lamp(self):
        for number in (-2, -1, 2, 3, FORTY, -FORTY):
            for at, place in product(range(2), range(4)):
                papers = deepcopy(GOOD)
                papers[at][place] = number
                self.assert_at(at, papers)

    def test_a_lamp_that_does_not_shine_then(self):
        self.assert_at(0, [[1, 1, 0, 1], GOOD[1]])
        self.assert_at(0, [[0, 1, 0, 0], GOOD[1]])
        self.assert_at(1, [GOOD[0], [1, 1, 1, 0]])
        self.assert_at(0, [[0, 0, 0, 0], [0, 0, 0, 0]])
        self.assert_at(0, GOOD[::-1])

    def test_every_short_paper(self):
        one, other = [(2, 1), (3, 0)], [(1, 0), (4, 3)]
        for paper in product((0, 1, 2), repeat=4):
            for number in range(2):
                period, beat = one[number]
                good = all(thing in numbers_at(other, beat + place * period) for place, thing in enumerate(paper))
                papers = [[0] * 4, [0] * 4]
                papers[number] = list(paper)
                if good:
                    self.assertIsNone(check_within(light_of(one), light_of(other), papers))
                else:
                    self.assert_at(number, papers, one, other)

    def test_a_light_that_is_not_within(self):
        for many in (1, 3, 10):
            other = doubling(many, 2 ** many - 1)
            paper = [numbers_at(other, beat)[0] for beat in range(2 ** many - 1)]
            for number in range(many):
                self.assert_at(0, [paper + [number]], [(1, 0)], other)
            self.assert_at(-1, [paper], [(1, 0)], other)

    def test_no_papers_for_a_light_without_lamps(self):
        for paper in ([], [[]], [[0]], [[0, 0]]):
            self.assert_at(0 if paper == [[0]] else -1, paper, [(3, 1)], [])

    def test_nothing_is_changed(self):
        papers = deepcopy(GOOD)
        one, other = light_of(ONE), light_of(OTHER)
        check_within(one, other, papers)
        self.assertEqual(papers, GOOD)
        self.assertEqual((fields_of(one), fields_of(other)), (ONE, OTHER))


if __name__ == "__main__":
    unittest.main()
