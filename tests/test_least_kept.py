"""Stage 3: least_kept (3.4), and what 3.5 says of it."""

import unittest
from itertools import combinations

from farlamps.errors import TooMany
from farlamps.idle import idle, least_kept, may_go, needed
from farlamps.lights import Light
from tests.things import doubling, fields_of, light_of, mixed_lights, numbers_at, round_of, small_lights

FORTY = 10 ** 39 + 7


def counted(pairs):
    """What least_kept is to tell, by plain counting over a whole round."""
    rows = [row for row in (numbers_at(pairs, beat) for beat in range(round_of(pairs))) if row]
    for many in range(len(pairs) + 1):
        for kept in combinations(range(len(pairs)), many):
            if all(set(kept) & set(row) for row in rows):
                return list(kept)


class Counted(unittest.TestCase):
    def test_all_small_lights(self):
        for pairs in small_lights(4, 2) + small_lights(3, 3):
            self.assertEqual(least_kept(light_of(pairs)), counted(pairs), pairs)

    def test_mixed_lights(self):
        for pairs in mixed_lights(21, 300, [3, 4, 5, 6], [1, 2, 3, 4, 6, 8]):
            self.assertEqual(least_kept(light_of(pairs)), counted(pairs), pairs)
        for pairs in mixed_lights(22, 100, [5, 6], [2, 3, 4]):
            self.assertEqual(least_kept(light_of(pairs)), counted(pairs), pairs)


class Edges(unittest.TestCase):
    def test_a_light_without_lamps(self):
        self.assertEqual(least_kept(Light([])), [])

    def test_one_lamp_is_kept(self):
        self.assertEqual(least_kept(light_of([(1, 0)])), [0])
        self.assertEqual(least_kept(light_of([(FORTY, 5)])), [0])

    def test_of_equal_lamps_the_first(self):
        for many in range(1, 7):
            self.assertEqual(least_kept(light_of([(5, 3)] * many)), [0])
        self.assertEqual(least_kept(light_of([(5, 3), (4, 1), (5, 3), (4, 1)])), [0, 1])

    def test_fewer_go_ahead_of_earlier(self):
        self.assertEqual(least_kept(light_of([(2, 0), (2, 1), (1, 0)])), [2])
        self.assertEqual(least_kept(light_of([(4, 0), (4, 2), (2, 0), (3, 1)])), [2, 3])
        self.assertEqual(least_kept(light_of([(3, 0), (2, 0), (3, 1), (2, 1), (3, 2)])), [1, 3])

    def test_of_as_many_the_first_in_order(self):
        # Two ways to be bright for ever by two lamps: numbers 0 and 3, numbers 1 and 2.
        self.assertEqual(least_kept(light_of([(2, 1), (2, 0), (2, 1), (2, 0)])), [0, 1])
        self.assertEqual(least_kept(light_of([(4, 0), (2, 1), (4, 2), (2, 0), (2, 0)])), [1, 3])

    def test_six_lamps_that_are_all_needed(self):
        self.assertEqual(least_kept(light_of(doubling(6))), [0, 1, 2, 3, 4, 5])
        self.assertEqual(least_kept(light_of([(6, place) for place in range(6)])), [0, 1, 2, 3, 4, 5])
        self.assertEqual(least_kept(light_of([(6, place) for place in range(5)] + [(1, 0)])), [5])

    def test_lost_only_at_the_last_look(self):
        for many in range(1, 6):
            last = 2 ** many - 1
            pairs = doubling(many, last) + [(1, 0)]
            self.assertEqual(least_kept(light_of(pairs)), [many])
            period = 2 * FORTY + 1
            far = [(2 ** (place + 1), 5 + period * (2 ** place + last)) for place in range(many)] + [(period, 5)]
            self.assertEqual(least_kept(light_of(far)), list(range(many + 1)))

    def test_great_periods(self):
        pairs = [(2 * FORTY, 4), (2 * FORTY, 4 + FORTY), (FORTY, 4), (FORTY + 1, 3)]
        self.assertEqual(least_kept(light_of(pairs)), [2, 3])
        self.assertEqual(least_kept(light_of(pairs[::-1])), [0, 1])
        self.assertEqual(least_kept(light_of(pairs[:2] + pairs[3:] + pairs[:1])), [0, 1, 2])
        far = 10 ** 1000
        self.assertEqual(least_kept(light_of([(far + place, 3) for place in range(6)])), [0, 1, 2, 3, 4, 5])


class Refused(unittest.TestCase):
    def test_more_than_six_lamps(self):
        for many in range(7, 11):
            for light in (light_of([(1, 0)] * many), light_of(doubling(many))):
                with self.assertRaises(TooMany) as caught:
                    least_kept(light)
                self.assertEqual(caught.exception.many, 6)
                self.assertIs(type(caught.exception.many), int)

    def test_six_are_not_too_many(self):
        self.assertEqual(least_kept(light_of([(1, 0)] * 6)), [0])


class Said(unittest.TestCase):
    def test_needed_lamps_are_kept_and_none_of_the_kept_is_idle(self):
        for pairs in mixed_lights(23, 150, [0, 1, 2, 3, 4, 5, 6], [1, 2, 3, 4, 5, 6, 8, FORTY, 2 * FORTY]):
            light = light_of(pairs)
            kept = least_kept(light)
            self.assertLessEqual({number for number, beat in needed(light)}, set(kept))
            self.assertEqual(idle(light_of([pairs[number] for number in kept])), [])
            going = [number for number in range(len(pairs)) if number not in kept]
            self.assertEqual(may_go(light, going)[0], "go")

    def test_no_shorter_list_is_enough(self):
        for pairs in mixed_lights(24, 30, [3, 4, 5], [2, 3, 4, 6, 2 * FORTY]):
            light = light_of(pairs)
            kept = least_kept(light)
            for other in combinations(range(len(pairs)), len(kept)):
                if list(other) < kept:
                    going = [number for number in range(len(pairs)) if number not in other]
                    self.assertEqual(may_go(light, going)[0], "dark")
            for fewer in range(len(kept)):
                for other in combinations(range(len(pairs)), fewer):
                    going = [number for number in range(len(pairs)) if number not in other]
                    self.assertEqual(may_go(light, going)[0], "dark")


class Told(unittest.TestCase):
    def test_new_each_time_and_nothing_changed(self):
        light = light_of([(4, 1), (2, 1), (3, 0)])
        told = least_kept(light)
        self.assertIs(type(told), list)
        told.append(0)
        self.assertEqual(least_kept(light), [1, 2])
        self.assertEqual(fields_of(light), [(4, 1), (2, 1), (3, 0)])
        least_kept(Light([])).append(0)
        self.assertEqual(least_kept(Light([])), [])

    def test_by_name(self):
        self.assertEqual(least_kept(light=light_of([(2, 0), (1, 0)])), [1])


if __name__ == "__main__":
    unittest.main()
