"""Stage 1: Lamp, shines, next_shine (1.1, 1.2); meet (1.3); seen_from, hides (1.4)."""

import unittest
from math import gcd, lcm

from farlamps.errors import LampError, NoBeat, NoLamp
from farlamps.lamps import Lamp, hides, meet, seen_from
from tests.things import EqualToAll, not_whole, pairs_up_to

FORTY = 10 ** 39 + 7
GREAT = [
    (FORTY, 10 ** 40 - 3), (FORTY + 1, -FORTY), (6 * FORTY, 5), (10 * FORTY, 9), (2 ** 130, -1),
    (10 ** 39, 3 * 10 ** 45 + 1), (1, FORTY), (2, FORTY),
]


def fields(lamp):
    return (lamp.period, lamp.beat)


class Made(unittest.TestCase):
    def test_the_beat_is_kept_by_the_period(self):
        for period in range(1, 9):
            for beat in range(-20, 21):
                first = [at for at in range(period) if (at - beat) % period == 0]
                self.assertEqual([fields(Lamp(period, beat))], [(period, at) for at in first])

    def test_some_by_hand(self):
        self.assertEqual(fields(Lamp(5, 13)), (5, 3))
        self.assertEqual(fields(Lamp(5, -3)), (5, 2))
        self.assertEqual(fields(Lamp(5, -5)), (5, 0))
        self.assertEqual(fields(Lamp(1, 7)), (1, 0))
        self.assertEqual(fields(Lamp(1, -7)), (1, 0))

    def test_numbers_of_many_figures(self):
        self.assertEqual(fields(Lamp(FORTY, -1)), (FORTY, FORTY - 1))
        self.assertEqual(fields(Lamp(FORTY, FORTY * FORTY + 3)), (FORTY, 3))
        self.assertEqual(fields(Lamp(10 ** 5000, -10 ** 6000 - 2)), (10 ** 5000, 10 ** 5000 - 2))

    def test_by_name_in_any_order(self):
        self.assertEqual(fields(Lamp(beat=9, period=7)), (7, 2))
        self.assertEqual(fields(Lamp(7, beat=9)), (7, 2))

    def test_fields_are_plain_whole_numbers(self):
        lamp = Lamp(3, 4)
        self.assertIs(type(lamp.period), int)
        self.assertIs(type(lamp.beat), int)


class MadeWrongly(unittest.TestCase):
    def assert_refused(self, what, period, beat):
        with self.assertRaises(NoLamp) as caught:
            Lamp(period, beat)
        self.assertEqual(caught.exception.what, what)
        self.assertIsInstance(caught.exception, LampError)

    def test_a_period_that_is_no_whole_number(self):
        for thing in not_whole():
            self.assert_refused("period", thing, 0)

    def test_a_period_below_one(self):
        for period in (0, -1, -2, -FORTY):
            self.assert_refused("period", period, 0)

    def test_a_beat_that_is_no_whole_number(self):
        for thing in not_whole():
            self.assert_refused("beat", 3, thing)
            self.assert_refused("beat", 1, thing)

    def test_the_period_comes_first(self):
        for thing in not_whole():
            self.assert_refused("period", thing, thing)
            self.assert_refused("period", 0, thing)


class Equal(unittest.TestCase):
    def test_where_period_and_kept_beat_are(self):
        every = pairs_up_to(6)
        for one in every:
            for other in every:
                self.assertIs(Lamp(*one) == Lamp(*other), one == other)
                self.assertIs(Lamp(*one) != Lamp(*other), one != other)
        self.assertEqual(Lamp(5, 2), Lamp(5, -8))
        self.assertNotEqual(Lamp(5, 2), Lamp(10, 2))
        self.assertNotEqual(Lamp(5, 2), Lamp(5, 3))
        self.assertEqual(Lamp(FORTY, 1), Lamp(FORTY, 1 + FORTY * FORTY))

    def test_to_nothing_that_is_no_lamp(self):
        class Alike:
            period = 5
            beat = 2

        for thing in (None, 5, 2, (5, 2), [5, 2], "Lamp(5, 2)", Alike(), EqualToAll(), Lamp, object()):
            self.assertIs(Lamp(5, 2) == thing, False)
            self.assertIs(Lamp(5, 2) != thing, True)


class Shines(unittest.TestCase):
    def test_ahead_and_behind(self):
        for period, first in pairs_up_to(7):
            lamp = Lamp(period, first)
            own = {first + number * period for number in range(-30, 31)}
            for beat in range(-25, 26):
                self.assertIs(lamp.shines(beat), beat in own)

    def test_far_away(self):
        lamp = Lamp(FORTY, 4)
        for times in (-FORTY, -1, 0, 1, FORTY):
            self.assertIs(lamp.shines(4 + times * FORTY), True)
            self.assertIs(lamp.shines(5 + times * FORTY), False)
            self.assertIs(lamp.shines(3 + times * FORTY), False)

    def test_next_shine(self):
        for period, first in pairs_up_to(7):
            lamp = Lamp(period, first)
            for begin in range(-25, 26):
                wanted = [beat for beat in range(begin, begin + period) if (beat - first) % period == 0]
                self.assertEqual([lamp.next_shine(begin)], wanted)

    def test_next_shine_takes_begin_too(self):
        self.assertEqual(Lamp(5, 3).next_shine(3), 3)
        self.assertEqual(Lamp(5, 3).next_shine(4), 8)
        self.assertEqual(Lamp(5, 3).next_shine(-2), -2)
        self.assertEqual(Lamp(5, 3).next_shine(-1), 3)
        self.assertEqual(Lamp(5, 3).next_shine(-7), -7)
        self.assertEqual(Lamp(5, 3).next_shine(-6), -2)
        self.assertEqual(Lamp(1, 0).next_shine(-6), -6)

    def test_next_shine_far_away(self):
        lamp = Lamp(FORTY, 4)
        self.assertEqual(lamp.next_shine(5), 4 + FORTY)
        self.assertEqual(lamp.next_shine(5 - FORTY * FORTY), 4 - FORTY * FORTY + FORTY)
        self.assertEqual(lamp.next_shine(4 - FORTY * FORTY), 4 - FORTY * FORTY)
        self.assertEqual(lamp.next_shine(lamp.next_shine(10 ** 90) + 1), lamp.next_shine(10 ** 90) + FORTY)

    def test_what_is_no_beat(self):
        lamp = Lamp(1, 0)
        for thing in not_whole():
            for ask in (lamp.shines, lamp.next_shine):
                with self.assertRaises(NoBeat) as caught:
                    ask(thing)
                self.assertIs(caught.exception.beat, thing)

    def test_by_name(self):
        self.assertIs(Lamp(4, 3).shines(beat=7), True)
        self.assertEqual(Lamp(4, 3).next_shine(begin=4), 7)


class Meet(unittest.TestCase):
    def test_all_small_ones(self):
        every = pairs_up_to(9)
        for p, a in every:
            for q, b in every:
                told = meet(Lamp(p, a), Lamp(q, b))
                whole = lcm(p, q)
                wanted = [(whole, at) for at in range(whole) if (at - a) % p == 0 and (at - b) % q == 0]
                self.assertEqual([] if told is None else [fields(told)], wanted)

    def test_never(self):
        self.assertIsNone(meet(Lamp(2, 0), Lamp(2, 1)))
        self.assertIsNone(meet(Lamp(4, 1), Lamp(6, 2)))
        self.assertIsNone(meet(Lamp(2 * FORTY, 0), Lamp(2 * FORTY + 2, 1)))

    def test_a_lamp_with_itself_and_with_one_that_always_shines(self):
        self.assertEqual(meet(Lamp(5, 2), Lamp(5, 2)), Lamp(5, 2))
        self.assertEqual(meet(Lamp(5, 2), Lamp(1, 0)), Lamp(5, 2))
        self.assertEqual(meet(Lamp(1, 0), Lamp(5, 2)), Lamp(5, 2))
        self.assertEqual(meet(Lamp(4, 1), Lamp(6, 3)), Lamp(12, 9))

    def test_great_ones(self):
        for p, a in GREAT:
            for q, b in GREAT:
                told = meet(Lamp(p, a), Lamp(q, b))
                self.assertIs(told is None, (b - a) % gcd(p, q) != 0)
                if told is not None:
                    self.assertEqual(told.period, lcm(p, q))
                    self.assertEqual((told.beat - a) % p, 0)
                    self.assertEqual((told.beat - b) % q, 0)
                    self.assertTrue(0 <= told.beat < told.period)

    def test_thousands_of_figures(self):
        one, other = Lamp(2 ** 17000, 1), Lamp(3 ** 11000, 2)
        told = meet(one, other)
        self.assertEqual(told.period, 2 ** 17000 * 3 ** 11000)
        self.assertTrue(one.shines(told.beat) and other.shines(told.beat))

    def test_by_name_and_nothing_changed(self):
        one, other = Lamp(4, 1), Lamp(6, 5)
        self.assertEqual(meet(other=other, one=one), Lamp(12, 5))
        self.assertEqual((fields(one), fields(other)), ((4, 1), (6, 5)))

    def test_the_told_lamp_is_a_new_one(self):
        lamp = Lamp(5, 2)
        self.assertIsNot(meet(lamp, lamp), lamp)
        self.assertIsNot(meet(lamp, Lamp(1, 0)), lamp)


class SeenFrom(unittest.TestCase):
    def test_all_small_ones(self):
        every = pairs_up_to(9)
        for p, a in every:
            for q, b in every:
                told = seen_from(Lamp(p, a), Lamp(q, b))
                numbers = range(-2 * q, 2 * q + 1)
                wanted = [number for number in numbers if (a + number * p - b) % q == 0]
                if told is None:
                    self.assertEqual(wanted, [])
                else:
                    shown = [number for number in numbers if (number - told.beat) % told.period == 0]
                    self.assertEqual(shown, wanted)
                    self.assertTrue(0 <= told.beat < told.period)

    def test_some_by_hand(self):
        self.assertEqual(fields(seen_from(Lamp(4, 1), Lamp(6, 3))), (3, 2))
        self.assertEqual(fields(seen_from(Lamp(6, 3), Lamp(4, 1))), (2, 1))
        self.assertEqual(fields(seen_from(Lamp(1, 0), Lamp(6, 3))), (6, 3))

    def test_always_and_never(self):
        self.assertEqual(fields(seen_from(Lamp(6, 5), Lamp(3, 2))), (1, 0))
        self.assertEqual(fields(seen_from(Lamp(6, 5), Lamp(6, 5))), (1, 0))
        self.assertEqual(fields(seen_from(Lamp(6, 5), Lamp(1, 0))), (1, 0))
        self.assertIsNone(seen_from(Lamp(6, 5), Lamp(3, 1)))
        self.assertIsNone(seen_from(Lamp(2, 0), Lamp(2, 1)))
        self.assertIsNone(seen_from(Lamp(2 * FORTY, 0), Lamp(2, 1)))

    def test_great_ones(self):
        for p, a in GREAT:
            for q, b in GREAT:
                lamp, other = Lamp(p, a), Lamp(q, b)
                told = seen_from(lamp, other)
                self.assertIs(told is None, (b - a) % gcd(p, q) != 0)
                if told is not None:
                    self.assertEqual(told.period, q // gcd(p, q))
                    self.assertTrue(other.shines(lamp.beat + told.beat * p))

    def test_own_beats_begin_at_the_kept_beat(self):
        self.assertEqual(fields(seen_from(Lamp(5, 17), Lamp(7, 2))), (7, 0))
        self.assertEqual(fields(seen_from(Lamp(5, -3), Lamp(7, 7))), (7, 1))

    def test_by_name_and_nothing_changed(self):
        lamp, other = Lamp(4, 1), Lamp(6, 3)
        self.assertEqual(fields(seen_from(other=other, lamp=lamp)), (3, 2))
        self.assertEqual((fields(lamp), fields(other)), ((4, 1), (6, 3)))


class Hides(unittest.TestCase):
    def test_all_small_ones(self):
        every = pairs_up_to(9)
        for p, a in every:
            for q, b in every:
                wanted = all((b + number * q - a) % p == 0 for number in range(p))
                self.assertIs(hides(Lamp(p, a), Lamp(q, b)), wanted)

    def test_some_by_hand(self):
        self.assertIs(hides(Lamp(2, 1), Lamp(4, 3)), True)
        self.assertIs(hides(Lamp(4, 3), Lamp(2, 1)), False)
        self.assertIs(hides(Lamp(2, 0), Lamp(4, 3)), False)
        self.assertIs(hides(Lamp(4, 3), Lamp(6, 3)), False)
        self.assertIs(hides(Lamp(3, 2), Lamp(3, 2)), True)
        self.assertIs(hides(Lamp(1, 0), Lamp(3, 2)), True)

    def test_great_ones(self):
        self.assertIs(hides(Lamp(FORTY, 3), Lamp(FORTY * FORTY, 3 - FORTY)), True)
        self.assertIs(hides(Lamp(FORTY, 3), Lamp(FORTY * FORTY, 4 - FORTY)), False)
        self.assertIs(hides(Lamp(FORTY * FORTY, 3), Lamp(FORTY, 3)), False)

    def test_by_name(self):
        self.assertIs(hides(other=Lamp(4, 3), one=Lamp(2, 1)), True)


if __name__ == "__main__":
    unittest.main()
