"""Stage 3: idle and needed (3.1), and what 3.5 says of them."""

import unittest

from farlamps.idle import idle, needed
from farlamps.lamps import Lamp
from farlamps.lights import Light
from tests.things import doubling, fields_of, light_of, mixed_lights, numbers_at, round_of, small_lights

FORTY = 10 ** 39 + 7


def alone(pairs):
    """By plain counting over a whole round: for each lamp that shines alone somewhere its first such beat."""
    found = {}
    for beat in range(round_of(pairs)):
        numbers = numbers_at(pairs, beat)
        if len(numbers) == 1:
            found.setdefault(numbers[0], beat)
    return sorted(found.items())


class Counted(unittest.TestCase):
    def assert_told(self, pairs):
        light = light_of(pairs)
        wanted = alone(pairs)
        self.assertEqual(needed(light), wanted, pairs)
        self.assertEqual(idle(light), sorted(set(range(len(pairs))) - {number for number, beat in wanted}), pairs)

    def test_all_small_lights(self):
        for pairs in small_lights(4, 2) + small_lights(3, 3):
            self.assert_told(pairs)

    def test_mixed_lights_of_more_lamps(self):
        for pairs in mixed_lights(1, 300, [3, 4, 5, 6], [2, 3, 4, 6, 8, 12]):
            self.assert_told(pairs)
        for pairs in mixed_lights(2, 60, [7, 8, 9, 10], [3, 4, 5, 6, 8, 10, 12, 20]):
            self.assert_told(pairs)


class Edges(unittest.TestCase):
    def test_a_light_without_lamps(self):
        self.assertEqual(idle(Light([])), [])
        self.assertEqual(needed(Light([])), [])

    def test_one_lamp_is_needed(self):
        self.assertEqual(idle(light_of([(7, 3)])), [])
        self.assertEqual(needed(light_of([(7, 3)])), [(0, 3)])

    def test_equal_lamps_are_idle_each_by_the_other(self):
        light = light_of([(5, 2), (3, 1), (5, 2)])
        self.assertEqual(idle(light), [0, 2])
        self.assertEqual(needed(light), [(1, 1)])
        self.assertEqual(idle(light_of([(4, 1)] * 10)), list(range(10)))
        self.assertEqual(needed(light_of([(4, 1)] * 10)), [])

    def test_idle_by_several_together(self):
        self.assertEqual(idle(light_of([(2, 0), (2, 1), (3, 1)])), [2])
        # No two of the others are enough.
        light = light_of([(5, 2), (15, 2), (15, 7), (15, 12)])
        self.assertEqual(idle(light), [0, 1, 2, 3])
        self.assertEqual(needed(light_of([(5, 2), (15, 2), (15, 7), (15, 11)])), [(0, 12), (3, 11)])

    def test_alone_only_at_the_last_of_its_looks(self):
        for many in range(1, 11):
            last = 2 ** (many - 1) - 1
            others = doubling(many - 1, last)
            for place in {0, many // 2, many - 1}:
                pairs = others[:place] + [(1, 0)] + others[place:]
                self.assertEqual(needed(light_of(pairs)), [(place, last)])

    def test_the_same_with_own_beats_far_from_each_other(self):
        period = FORTY * 2 + 1
        for many in range(2, 11):
            last = 2 ** (many - 1) - 1
            others = [(2 ** (place + 1), 5 + period * (2 ** place + last)) for place in range(many - 1)]
            told = needed(light_of(others + [(period, 5)]))
            self.assertEqual(told[-1], (many - 1, 5 + period * last))
            self.assertEqual(idle(light_of(others[1:] + [(1, 0), (period, 5)]))[-1], many - 1)

    def test_bright_for_ever_at_all_looks_but_one_lamp_less(self):
        pairs = [(10, place) for place in range(9)] + [(20, 9)]
        self.assertEqual(idle(light_of(pairs)), [])
        self.assertEqual(needed(light_of(pairs)), [(place, place) for place in range(10)])
        self.assertEqual(idle(light_of([(10, place) for place in range(9)] + [(1, 0)])), list(range(9)))
        self.assertEqual(needed(light_of([(10, place) for place in range(9)] + [(1, 0)])), [(9, 9)])

    def test_great_periods_without_common_parts(self):
        pairs = [(FORTY, 3), (FORTY + 1, 3), (FORTY + 2, 3)]
        told = needed(light_of(pairs))
        self.assertEqual(told, [(0, 3 + FORTY), (1, 4 + FORTY), (2, 5 + FORTY)])

    def test_great_periods_with_common_parts(self):
        light = light_of([(3 * FORTY, 8), (2 * FORTY, 8), (2 * FORTY, 8 + FORTY), (5 * FORTY, 9)])
        self.assertEqual(idle(light), [0])
        self.assertEqual(needed(light), [(1, 8 + 2 * FORTY), (2, 8 + FORTY), (3, 9)])

    def test_thousands_of_figures(self):
        far = 10 ** 3000
        light = light_of([(2 * far, far + 1), (far, 1), (far + 1, 0)])
        self.assertEqual(idle(light), [0])
        self.assertEqual(needed(light), [(1, 1), (2, 0)])


class Said(unittest.TestCase):
    def test_a_needed_lamp_shines_alone_at_one_of_its_first_looks(self):
        for pairs in mixed_lights(3, 200, [1, 2, 3, 4, 5, 6, 7], [1, 2, 3, 4, 6, 7, 8, 9, 12]):
            for number, beat in needed(light_of(pairs)):
                period, first = pairs[number]
                self.assertEqual((beat - first) % period, 0)
                self.assertTrue(0 <= (beat - first) // period < 2 ** (len(pairs) - 1))
                self.assertEqual(numbers_at(pairs, beat), [number])

    def test_each_lamp_is_idle_or_needed(self):
        for pairs in mixed_lights(4, 200, [0, 1, 2, 5, 8, 10], [2, 3, 4, 5, 6, 8, FORTY]):
            light = light_of(pairs)
            self.assertEqual(sorted(idle(light) + [number for number, beat in needed(light)]), list(range(len(pairs))))

    def test_a_lamp_put_to_a_light_makes_no_idle_lamp_needed(self):
        for pairs in mixed_lights(5, 60, [2, 3, 4, 5], [2, 3, 4, 6]):
            ahead = idle(light_of(pairs))
            for more in mixed_lights(6, 10, [1], [1, 2, 3, 5, 6, 12]):
                self.assertLessEqual(set(ahead), set(idle(light_of(pairs + more))))


class Told(unittest.TestCase):
    def test_kinds(self):
        light = light_of([(2, 0), (2, 1), (3, 1)])
        self.assertIs(type(idle(light)), list)
        self.assertIs(type(needed(light)), list)
        for told in needed(light):
            self.assertIs(type(told), tuple)
            self.assertEqual([type(part) for part in told], [int, int])

    def test_new_each_time_and_nothing_changed(self):
        light = Light([Lamp(2, 0), Lamp(2, 1), Lamp(3, 1)])
        for ask in (idle, needed):
            ahead = list(ask(light))
            told = ask(light)
            told.append("more")
            told[0] = "else"
            self.assertEqual(ask(light), ahead)
        self.assertEqual(fields_of(light), [(2, 0), (2, 1), (3, 1)])

    def test_by_name(self):
        light = light_of([(2, 0), (4, 0)])
        self.assertEqual(idle(light=light), [1])
        self.assertEqual(needed(light=light), [(0, 2)])


if __name__ == "__main__":
    unittest.main()
