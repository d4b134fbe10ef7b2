"""Stage 9: moved, stretched, thinned, without, joined and both (9.1 to 9.3)."""

import unittest
from itertools import combinations, permutations, product

from farlamps.errors import NoBeat, NoNumber, NoSize, TooMany
from farlamps.lamps import Lamp, meet, seen_from
from farlamps.lights import Light
from farlamps.moved import both, joined, moved, stretched, thinned, without
from tests.things import (
    Hostile, doubling, fields_of, light_of, mixed_lights, not_whole, numbers_at, pairs_up_to, round_of, small_lights,
)

FORTY = 10 ** 39 + 7

SMALL = small_lights(3, 2) + [[(4, 1), (6, 3), (2, 0)], [(5, 2), (5, 2)], [(8, 7), (3, 0), (1, 0)]]


def is_bright(pairs, beat):
    return bool(numbers_at(pairs, beat))


class Moved(unittest.TestCase):
    def test_each_beat_is_what_the_light_is_so_much_less(self):
        for pairs in SMALL:
            for by in (0, 1, 2, -1, -7, 100):
                light = moved(light_of(pairs), by)
                for beat in range(-12, 13):
                    self.assertEqual(light.shining(beat), numbers_at(pairs, beat - by))

    def test_a_lamp_for_each_in_order(self):
        self.assertEqual(fields_of(moved(light_of([(5, 3), (2, 1), (5, 3)]), 4)), [(5, 2), (2, 1), (5, 2)])
        self.assertEqual(fields_of(moved(light_of([(5, 3), (2, 1)]), -4)), [(5, 4), (2, 1)])

    def test_by_0_and_there_and_back(self):
        for pairs in SMALL:
            light = light_of(pairs)
            self.assertEqual(moved(light, 0), light)
            self.assertEqual(moved(moved(light, FORTY), -FORTY), light)
            self.assertEqual(moved(light, round_of(pairs)), light)

    def test_without_lamps_and_ten(self):
        self.assertEqual(moved(Light([]), 5), Light([]))
        self.assertEqual(moved(light_of(doubling(10)), 3), light_of(doubling(10, 3)))

    def test_great_numbers(self):
        far = 10 ** 3000
        light = moved(light_of([(far, 5), (FORTY, 1)]), -far - 6)
        self.assertEqual(fields_of(light), [(far, far - 1), (FORTY, (-far - 5) % FORTY)])

    def test_no_beat(self):
        for light in (Light([]), light_of([(2, 1)])):
            for thing in not_whole():
                with self.assertRaises(NoBeat) as caught:
                    moved(light, thing)
                self.assertIs(caught.exception.beat, thing)


class Stretched(unittest.TestCase):
    def test_times_each_beat_and_dark_between(self):
        for pairs in SMALL:
            for times in (1, 2, 3, 7):
                light = stretched(light_of(pairs), times)
                for beat in range(-5, 6):
                    self.assertEqual(light.shining(times * beat), numbers_at(pairs, beat))
                    for between in range(1, times):
                        self.assertEqual(light.shining(times * beat + between), [])

    def test_a_lamp_for_each_in_order(self):
        self.assertEqual(fields_of(stretched(light_of([(5, 3), (2, 1), (5, 3)]), 4)), [(20, 12), (8, 4), (20, 12)])

    def test_by_1(self):
        for pairs in SMALL:
            self.assertEqual(stretched(light_of(pairs), 1), light_of(pairs))

    def test_without_lamps_and_ten(self):
        self.assertEqual(stretched(Light([]), 5), Light([]))
        self.assertEqual(stretched(light_of([(10, place) for place in range(10)]), 2),
                         light_of([(20, 2 * place) for place in range(10)]))

    def test_great_numbers(self):
        far = 10 ** 3000
        self.assertEqual(fields_of(stretched(light_of([(far, 5), (1, 0)]), far)), [(far * far, 5 * far), (far, 0)])

    def test_no_size(self):
        for light in (Light([]), light_of([(2, 1)])):
            for thing in not_whole() + [0, -1, -2, -FORTY]:
                with self.assertRaises(NoSize) as caught:
                    stretched(light, thing)
                self.assertEqual(caught.exception.what, "times")


class Thinned(unittest.TestCase):
    def test_at_each_number_what_the_light_is_at_the_own_beat(self):
        for pairs in SMALL:
            for period, beat in pairs_up_to(5):
                light = thinned(light_of(pairs), Lamp(period, beat))
                for number in range(-10, 11):
                    self.assertEqual(light.is_bright(number), is_bright(pairs, beat + number * period))

    def test_what_seen_from_tells_in_order(self):
        for pairs in mixed_lights(111, 60, [1, 2, 3, 6, 10], [2, 3, 4, 6, 8, 12]):
            for lamp in (Lamp(1, 0), Lamp(4, 1), Lamp(6, 5), Lamp(5, 2)):
                seen = [seen_from(lamp, other) for other in light_of(pairs).lamps()]
                self.assertEqual(thinned(light_of(pairs), lamp).lamps(), [other for other in seen if other is not None])

    def test_those_that_never_shine_there_are_left_out(self):
        light = light_of([(2, 0), (4, 1), (2, 1), (6, 3), (4, 3)])
        self.assertEqual(fields_of(thinned(light, Lamp(4, 1))), [(1, 0), (1, 0), (3, 2)])
        self.assertEqual(thinned(light, Lamp(2, 0)), light_of([(1, 0)]))
        self.assertEqual(thinned(light_of([(2, 0), (4, 2)]), Lamp(4, 1)), Light([]))

    def test_lamps_that_become_equal_stay(self):
        self.assertEqual(fields_of(thinned(light_of([(2, 0), (4, 0), (2, 0)]), Lamp(4, 0))), [(1, 0)] * 3)

    def test_without_lamps_and_by_a_lamp_that_always_shines(self):
        self.assertEqual(thinned(Light([]), Lamp(3, 1)), Light([]))
        for pairs in SMALL:
            self.assertEqual(thinned(light_of(pairs), Lamp(1, 0)), light_of(pairs))

    def test_great_numbers(self):
        far = 10 ** 3000
        light = light_of([(far, 1), (2 * far, far + 1), (far + 1, 2)])
        self.assertEqual(fields_of(thinned(light, Lamp(far, 1))), [(1, 0), (2, 1), (far + 1, far)])


class Without(unittest.TestCase):
    def test_all_choices(self):
        for pairs in ([], [(3, 1)], [(2, 0), (4, 1), (2, 0)], [(2, 0), (3, 1), (5, 4), (7, 2)]):
            for many in range(len(pairs) + 1):
                for numbers in permutations(range(len(pairs)), many):
                    left = [pair for number, pair in enumerate(pairs) if number not in numbers]
                    self.assertEqual(fields_of(without(light_of(pairs), list(numbers))), left)
                    self.assertEqual(without(light_of(pairs), numbers), light_of(left))

    def test_none_and_all_of_ten(self):
        light = light_of(doubling(10))
        self.assertEqual(without(light, []), light)
        self.assertEqual(without(light, ()), light)
        self.assertEqual(without(light, list(range(10))), Light([]))
        self.assertEqual(without(light, [9]), light_of(doubling(9)))

    def test_an_equal_one_stays(self):
        self.assertEqual(fields_of(without(light_of([(3, 1), (3, 1), (3, 1)]), [1])), [(3, 1), (3, 1)])


class NoNumbers(unittest.TestCase):
    LIGHT = light_of([(2, 0), (3, 0), (1, 0)])

    def assert_refused(self, numbers, wanted, light=None):
        with self.assertRaises(NoNumber) as caught:
            without(self.LIGHT if light is None else light, numbers)
        self.assertIs(caught.exception.number, wanted)

    def test_what_is_no_list_or_tuple(self):
        for thing in (None, True, 0, 1, 1.5, "", "01", b"\x00", {}, {0: 1}, set(), {0}, frozenset(), range(2),
                      iter([0]), object(), list, Light([]), Hostile()):
            self.assert_refused(thing, thing)
            self.assert_refused(thing, thing, Light([]))

    def test_what_is_no_number_of_a_lamp(self):
        for thing in not_whole() + [-1, -3, 3, 10, FORTY, -FORTY]:
            self.assert_refused([thing], thing)
            self.assert_refused((thing,), thing)
            self.assert_refused([2, 0, thing], thing)
            self.assert_refused([thing, None, 7], thing)
            self.assert_refused([1, thing, 1], thing)
        self.assert_refused([0], 0, Light([]))

    def test_a_number_twice(self):
        self.assert_refused([1, 1], 1)
        self.assert_refused((2, 0, 2), 2)
        self.assert_refused([0, 1, 2, 1, 0], 1)
        self.assert_refused([0, 1, 1, 9], 1)
        self.assert_refused([0, 1, 9, 1], 9)


class Joined(unittest.TestCase):
    def test_the_lamps_of_both_those_of_the_one_ahead(self):
        for one, other in product(SMALL, SMALL):
            self.assertEqual(fields_of(joined(light_of(one), light_of(other))), one + other)

    def test_bright_where_the_one_or_the_other_is(self):
        for one, other in product(SMALL[:30], SMALL[:30]):
            light = joined(light_of(one), light_of(other))
            for beat in range(-6, 7):
                self.assertEqual(light.is_bright(beat), is_bright(one, beat) or is_bright(other, beat))

    def test_ten_and_more(self):
        for many in range(11):
            one, other = doubling(many), doubling(10 - many, 5)
            self.assertEqual(fields_of(joined(light_of(one), light_of(other))), fields_of(light_of(one + other)))
            for more in range(max(1, 11 - many), 11):
                for pairs in ([(3, 1)] * more, doubling(more)):
                    with self.assertRaises(TooMany) as caught:
                        joined(light_of(doubling(many)), light_of(pairs))
                    self.assertEqual(caught.exception.many, 10)
        # Equal ones are counted each.
        with self.assertRaises(TooMany):
            joined(light_of([(3, 1)] * 6), light_of([(3, 1)] * 5))

    def test_without_lamps(self):
        self.assertEqual(joined(Light([]), Light([])), Light([]))
        self.assertEqual(joined(light_of([(3, 1)]), Light([])), light_of([(3, 1)]))
        self.assertEqual(joined(Light([]), light_of([(3, 1)])), light_of([(3, 1)]))


class Both(unittest.TestCase):
    def wanted(self, one, other):
        """The pairs where lamps meet, found by trying all beats of a round, of equal ones the first alone."""
        found = []
        for first, second in product(one, other):
            whole = round_of([first, second])
            beats = [beat for beat in range(whole) if numbers_at([first, second], beat) == [0, 1]]
            if beats and (whole, beats[0]) not in found:
                found.append((whole, beats[0]))
        return found

    def test_small_lights(self):
        for one, other in product(SMALL, SMALL):
            light = both(light_of(one), light_of(other))
            self.assertEqual(fields_of(light), self.wanted(one, other))

    def test_bright_just_where_both_are(self):
        for one in mixed_lights(112, 20, [1, 2, 3], [2, 3, 4, 6, 9]):
            for other in mixed_lights(113, 20, [0, 1, 2, 3], [2, 3, 4, 6, 9]):
                light = both(light_of(one), light_of(other))
                for beat in range(-18, 19):
                    self.assertEqual(light.is_bright(beat), is_bright(one, beat) and is_bright(other, beat))

    def test_more_lamps(self):
        for one, other in combinations(mixed_lights(114, 16, [3, 5, 10], [2, 4, 8]), 2):
            wanted = self.wanted(one, other)
            if len(wanted) > 10:
                with self.assertRaises(TooMany) as caught:
                    both(light_of(one), light_of(other))
                self.assertEqual(caught.exception.many, 10)
            else:
                self.assertEqual(fields_of(both(light_of(one), light_of(other))), wanted)

    def test_lamps_that_meet_never(self):
        self.assertEqual(both(light_of([(2, 0)]), light_of([(2, 1)])), Light([]))
        self.assertEqual(both(light_of([(4, 0), (6, 2)]), light_of([(8, 1), (2, 1), (10, 3)])), Light([]))
        self.assertEqual(fields_of(both(light_of([(4, 0), (3, 2)]), light_of([(6, 1), (2, 1)]))), [(6, 5)])

    def test_lamps_that_meet_at_the_same_beats(self):
        self.assertEqual(fields_of(both(light_of([(3, 1)] * 10), light_of([(3, 1)] * 10))), [(3, 1)])
        self.assertEqual(fields_of(both(light_of([(2, 0), (4, 0), (1, 0)]), light_of([(4, 0), (8, 4)]))),
                         [(4, 0), (8, 4)])
        # The first of equal ones, in the order of the one's lamps.
        self.assertEqual(fields_of(both(light_of([(2, 1), (3, 0), (2, 1)]), light_of([(3, 0), (2, 1)]))),
                         [(6, 3), (2, 1), (3, 0)])

    def test_ten_and_more(self):
        ten = [(10, place) for place in range(10)]
        self.assertEqual(both(light_of(ten), light_of(ten)), light_of(ten))
        self.assertEqual(both(light_of(ten), light_of([(1, 0)] * 10)), light_of(ten))
        told = both(light_of([(2, 0), (3, 0)]), light_of([(5, 0), (7, 0), (11, 0), (13, 0), (17, 0)]))
        self.assertEqual(len(told.lamps()), 10)
        for one, other in (([(2, 0), (3, 0), (5, 0)], [(7, 0), (11, 0), (13, 0), (17, 0)]),
                           (ten, [(1, 0), (3, 1)]), ([(1, 0), (3, 1)], ten), (ten, [(3, 0), (9, 1)])):
            self.assertGreater(len(self.wanted(one, other)), 10)
            with self.assertRaises(TooMany) as caught:
                both(light_of(one), light_of(other))
            self.assertEqual(caught.exception.many, 10)
        # Eleven, ten of them unlike.
        self.assertEqual(both(light_of(ten), light_of([(1, 0), (10, 3)])), light_of(ten))

    def test_without_lamps(self):
        self.assertEqual(both(Light([]), Light([])), Light([]))
        self.assertEqual(both(Light([]), light_of(doubling(10))), Light([]))
        self.assertEqual(both(light_of(doubling(10)), Light([])), Light([]))

    def test_great_numbers(self):
        far = 10 ** 3000
        one, other = [(far, 3), (2 * far, 4)], [(far + 1, 3), (far, 4), (2 * far, far + 4)]
        wanted = [meet(first, second) for first in light_of(one).lamps() for second in light_of(other).lamps()]
        self.assertEqual([lamp is None for lamp in wanted], [False, True, True, False, False, True])
        self.assertEqual(both(light_of(one), light_of(other)), Light([lamp for lamp in wanted if lamp is not None]))


class Told(unittest.TestCase):
    def asks(self, light):
        return (lambda: moved(light, 3), lambda: stretched(light, 2), lambda: thinned(light, Lamp(3, 1)),
                lambda: without(light, [0]), lambda: joined(light, light), lambda: both(light, light))

    def test_kinds(self):
        for ask in self.asks(light_of([(2, 1), (4, 0)])):
            self.assertIs(type(ask()), Light)

    def test_new_and_nothing_changed_or_kept(self):
        pairs = [(2, 1), (4, 0)]
        light = light_of(pairs)
        for ask in self.asks(light) + (lambda: moved(light, 0), lambda: stretched(light, 1), lambda: without(light, []),
                                       lambda: thinned(light, Lamp(1, 0)), lambda: joined(light, Light([]))):
            told, again = ask(), ask()
            self.assertEqual(told, again)
            self.assertIsNot(told, light)
            told.lamps().clear()
            told.lamps()[0].beat = 9
            self.assertEqual(told, again)
            self.assertEqual(fields_of(light), pairs)
        numbers = [1]
        told = without(light, numbers)
        numbers.append(0)
        self.assertEqual((fields_of(told), numbers), ([(2, 1)], [1, 0]))
        lamp = Lamp(3, 1)
        thinned(light, lamp)
        self.assertEqual((lamp.period, lamp.beat), (3, 1))

    def test_by_name_in_any_order(self):
        light, other = light_of([(4, 1), (2, 0)]), light_of([(3, 1)])
        self.assertEqual(moved(by=1, light=light), light_of([(4, 2), (2, 1)]))
        self.assertEqual(stretched(times=2, light=light), light_of([(8, 2), (4, 0)]))
        self.assertEqual(thinned(lamp=Lamp(2, 1), light=light), light_of([(2, 0)]))
        self.assertEqual(without(numbers=[0], light=light), light_of([(2, 0)]))
        self.assertEqual(joined(other=other, one=light), light_of([(4, 1), (2, 0), (3, 1)]))
        self.assertEqual(both(other=other, one=light), light_of([(12, 1), (6, 4)]))


if __name__ == "__main__":
    unittest.main()
