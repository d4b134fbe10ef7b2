"""Stage 2: Light, lamps, wait (2.1); is_bright, shining, next_bright (2.2); next_dark, last_dark (2.3)."""

import unittest

from farlamps.errors import NoBeat, NoLight
from farlamps.lamps import Lamp
from farlamps.lights import Light, check_ever
from tests.things import (
    EqualToAll, Hostile, doubling, fields_of, light_of, not_whole, numbers_at, round_of, small_lights,
)

FORTY = 10 ** 39 + 7
# The system of lamps that covers all beats by unlike periods.
COVERING = [(2, 0), (3, 0), (4, 1), (6, 5), (12, 7)]


def dark_beats(pairs, begin, end):
    return [beat for beat in range(begin, end) if not numbers_at(pairs, beat)]


class Made(unittest.TestCase):
    def test_of_a_list_and_of_a_tuple(self):
        pairs = [(3, 1), (2, 0), (3, 1), (7, 6)]
        lamps = [Lamp(*pair) for pair in pairs]
        self.assertEqual(fields_of(Light(lamps)), pairs)
        self.assertEqual(fields_of(Light(tuple(lamps))), pairs)
        self.assertEqual(fields_of(Light(lamps=lamps)), pairs)

    def test_lamps_are_told_as_a_list_in_their_order(self):
        for pairs in ([], [(1, 0)], [(9, 3), (2, 1)], [(2, 1), (9, 3)], [(4, 2)] * 3):
            told = light_of(pairs).lamps()
            self.assertIs(type(told), list)
            self.assertEqual(told, [Lamp(*pair) for pair in pairs])

    def test_wait_counts_equal_lamps_each(self):
        for many in range(11):
            self.assertEqual(light_of([(3, 1)] * many).wait(), 2 ** many)
            self.assertEqual(light_of(doubling(many)).wait(), 2 ** many)

    def test_none_and_ten_lamps_are_a_light(self):
        self.assertEqual(Light([]).lamps(), [])
        self.assertEqual(Light(()).wait(), 1)
        self.assertEqual(len(light_of(doubling(10)).lamps()), 10)


class MadeWrongly(unittest.TestCase):
    def assert_refused(self, lamps):
        with self.assertRaises(NoLight) as caught:
            Light(lamps)
        self.assertEqual(caught.exception.what, "lamps")

    def test_what_is_no_list_or_tuple(self):
        lamp = Lamp(2, 1)
        for thing in (None, True, 0, 1.0, "", "lamps", b"", {}, {lamp.beat: lamp}, set(), frozenset(), range(0),
                      lamp, Light([lamp]), iter([lamp]), object(), Light, Hostile()):
            self.assert_refused(thing)

    def test_what_holds_a_thing_that_is_no_lamp(self):
        lamp = Lamp(2, 1)
        for thing in not_whole() + [(2, 1), Light([]), Lamp, 5]:
            self.assert_refused([thing])
            self.assert_refused((thing,))
            self.assert_refused([lamp, thing])
            self.assert_refused([thing, lamp])
            self.assert_refused([lamp] * 9 + [thing])

    def test_more_than_ten_lamps(self):
        for many in (11, 12, 40):
            self.assert_refused([Lamp(2, 1)] * many)
            self.assert_refused((Lamp(2, 1),) * many)


class Equal(unittest.TestCase):
    def test_where_the_lamps_are_in_order(self):
        every = small_lights(3, 2)
        for one in every:
            for other in every:
                self.assertIs(light_of(one) == light_of(other), one == other)
                self.assertIs(light_of(one) != light_of(other), one != other)

    def test_lights_that_only_look_the_same_are_not(self):
        self.assertNotEqual(light_of([(1, 0)]), light_of([(2, 0), (2, 1)]))
        self.assertNotEqual(light_of([(2, 0), (2, 1)]), light_of([(2, 1), (2, 0)]))
        self.assertEqual(light_of([(2, 4), (2, -1)]), light_of([(2, 0), (2, 1)]))

    def test_to_nothing_that_is_no_light(self):
        lamp = Lamp(2, 1)
        for thing in (None, [lamp], (lamp,), lamp, 0, "light", EqualToAll(), Light, object()):
            self.assertIs(Light([lamp]) == thing, False)
            self.assertIs(Light([lamp]) != thing, True)
        self.assertIs(Light([]) == [], False)


class NothingKept(unittest.TestCase):
    def test_what_is_done_to_the_list_behind_the_call(self):
        lamps = [Lamp(2, 0), Lamp(3, 1)]
        light = Light(lamps)
        lamps.append(Lamp(1, 0))
        lamps[0] = Lamp(5, 4)
        self.assertEqual(fields_of(light), [(2, 0), (3, 1)])
        self.assertEqual(light.wait(), 4)

    def test_what_is_done_to_a_lamp_behind_the_call(self):
        lamp = Lamp(2, 0)
        light = Light([lamp])
        lamp.period = 3
        lamp.beat = 1
        light.lamps()[0].beat = 1
        self.assertEqual(fields_of(light), [(2, 0)])
        self.assertEqual(light.next_dark(0), ("dark", 1))

    def test_the_list_is_not_changed(self):
        lamps = [Lamp(3, 1), Lamp(2, 0), Lamp(3, 1)]
        ahead = list(lamps)
        light = Light(lamps)
        for ask in (light.is_bright, light.shining, light.next_bright, light.next_dark, light.last_dark):
            ask(4)
        self.assertEqual([id(lamp) for lamp in lamps], [id(lamp) for lamp in ahead])
        self.assertEqual([(lamp.period, lamp.beat) for lamp in lamps], [(3, 1), (2, 0), (3, 1)])

    def test_told_lists_are_new_each_time(self):
        light = light_of([(2, 0), (2, 1)])
        asks = [
            light.lamps, lambda: light.shining(0),
            lambda: light.next_dark(0)[1], lambda: light.last_dark(0)[1],
        ]
        for ask in asks:
            ahead = list(ask())
            told = ask()
            told.append("more")
            told[0] = "else"
            self.assertEqual(ask(), ahead)

    def test_a_paper_that_is_looked_over_is_not_changed(self):
        light = light_of([(2, 0), (2, 1)])
        paper = [0, 1, 0, 1]
        check_ever(light, 0, paper)
        self.assertEqual(paper, [0, 1, 0, 1])


class Bright(unittest.TestCase):
    def test_all_small_lights(self):
        for pairs in small_lights(4, 2) + COVERING_PARTS:
            light = light_of(pairs)
            for beat in range(-14, 15):
                numbers = numbers_at(pairs, beat)
                self.assertEqual(light.shining(beat), numbers)
                self.assertIs(light.is_bright(beat), numbers != [])

    def test_next_bright_of_all_small_lights(self):
        for pairs in small_lights(4, 2)[1:] + COVERING_PARTS:
            light = light_of(pairs)
            for begin in range(-14, 15):
                beat = begin
                while not numbers_at(pairs, beat):
                    beat += 1
                self.assertEqual(light.next_bright(begin), ("bright", beat))

    def test_of_no_lamps(self):
        light = Light([])
        for beat in (-FORTY, -1, 0, 1, FORTY):
            self.assertIs(light.is_bright(beat), False)
            self.assertEqual(light.shining(beat), [])
            self.assertEqual(light.next_bright(beat), ("never",))

    def test_kinds_of_what_is_told(self):
        light = light_of([(2, 0), (2, 0)])
        self.assertEqual(light.shining(0), [0, 1])
        self.assertIs(type(light.shining(0)), list)
        self.assertIs(type(light.next_bright(0)), tuple)
        self.assertIs(type(Light([]).next_bright(0)), tuple)

    def test_ten_lamps_far_away(self):
        pairs = doubling(10, FORTY)
        light = light_of(pairs)
        self.assertIs(light.is_bright(FORTY), False)
        self.assertIs(light.is_bright(FORTY + 1024 * FORTY), False)
        self.assertIs(light.is_bright(FORTY + 512), True)
        self.assertEqual(light.shining(FORTY + 512), [9])
        self.assertEqual(light.shining(FORTY - 1024 * FORTY + 96), [5])
        self.assertEqual(light.next_bright(FORTY), ("bright", FORTY + 1))

    def test_next_bright_however_far(self):
        light = light_of([(FORTY * FORTY, 0), (FORTY, 5)])
        self.assertEqual(light.next_bright(6), ("bright", FORTY + 5))
        self.assertEqual(light.next_bright(FORTY * FORTY - FORTY + 6), ("bright", FORTY * FORTY))
        self.assertEqual(light.next_bright(5), ("bright", 5))
        self.assertEqual(light.next_bright(-FORTY + 6), ("bright", 0))


class NextDark(unittest.TestCase):
    def assert_told(self, pairs, begin):
        light = light_of(pairs)
        whole = round_of(pairs)
        ahead = dark_beats(pairs, begin, begin + whole)
        behind = dark_beats(pairs, begin - whole + 1, begin + 1)
        wait = 2 ** len(pairs)
        if ahead:
            self.assertEqual(light.next_dark(begin), ("dark", ahead[0]))
            self.assertEqual(light.last_dark(begin), ("dark", behind[-1]))
        else:
            paper = [numbers_at(pairs, begin + place)[0] for place in range(wait)]
            self.assertEqual(light.next_dark(begin), ("ever", paper))
            paper = [numbers_at(pairs, begin - wait + 1 + place)[0] for place in range(wait)]
            self.assertEqual(light.last_dark(begin), ("ever", paper))

    def test_all_small_lights(self):
        for pairs in small_lights(4, 2):
            for begin in range(-5, 6):
                self.assert_told(pairs, begin)

    def test_all_small_lights_of_three_lamps(self):
        for pairs in small_lights(4, 3):
            if len(pairs) == 3:
                for begin in (-6, 0, 5):
                    self.assert_told(pairs, begin)

    def test_more_lamps(self):
        for pairs in COVERING_PARTS:
            for begin in (-40, -1, 0, 1, 7, 33):
                self.assert_told(pairs, begin)

    def test_only_the_last_of_wait_beats_is_dark(self):
        for many in range(1, 11):
            light = light_of(doubling(many))
            wait = 2 ** many
            self.assertEqual(light.next_dark(1), ("dark", wait))
            self.assertEqual(light.next_dark(0), ("dark", 0))
            self.assertEqual(light.next_dark(1 - 5 * wait), ("dark", -4 * wait))
            self.assertEqual(light.last_dark(-1), ("dark", -wait))
            self.assertEqual(light.last_dark(0), ("dark", 0))
            self.assertEqual(light.last_dark(wait - 1), ("dark", 0))

    def test_the_same_with_lamps_in_other_order_and_far_away(self):
        light = light_of(doubling(10, -FORTY)[::-1])
        self.assertEqual(light.next_dark(1 - FORTY), ("dark", 1024 - FORTY))
        self.assertEqual(light.last_dark(1023 - FORTY), ("dark", -FORTY))

    def test_of_no_lamps(self):
        for begin in (-FORTY, -1, 0, 1, FORTY):
            self.assertEqual(Light([]).next_dark(begin), ("dark", begin))
            self.assertEqual(Light([]).last_dark(begin), ("dark", begin))

    def test_a_lamp_that_always_shines(self):
        self.assertEqual(light_of([(1, 0)]).next_dark(5), ("ever", [0, 0]))
        self.assertEqual(light_of([(2, 1), (1, 0)]).next_dark(4), ("ever", [1, 0, 1, 0]))
        self.assertEqual(light_of([(2, 1), (1, 0)]).last_dark(4), ("ever", [0, 1, 0, 1]))

    def test_a_paper_has_the_least_numbers_of_equal_lamps(self):
        light = light_of([(2, 1), (2, 0), (2, 0), (2, 1), (1, 0)])
        self.assertEqual(light.next_dark(0), ("ever", [1, 0] * 16))
        self.assertEqual(light.last_dark(0), ("ever", [0, 1] * 16))

    def test_ten_lamps_that_are_bright_for_ever(self):
        pairs = [(10, FORTY + place) for place in range(10)]
        light = light_of(pairs)
        self.assertEqual(light.next_dark(FORTY), ("ever", [place % 10 for place in range(1024)]))
        self.assertEqual(light.last_dark(FORTY - 1), ("ever", [(place + 6) % 10 for place in range(1024)]))

    def test_lamps_that_nearly_cover(self):
        pairs = [(10, place) for place in range(9)] + [(20, 9)]
        self.assertEqual(light_of(pairs).next_dark(0), ("dark", 19))
        self.assertEqual(light_of(pairs).last_dark(18), ("dark", -1))

    def test_great_periods_have_no_common_round_that_is_gone_through(self):
        periods = [FORTY + 2 * place for place in range(10)]
        light = light_of([(period, 100 + place) for place, period in enumerate(periods)])
        self.assertEqual(light.next_dark(100), ("dark", 110))
        self.assertEqual(light.last_dark(109), ("dark", 99))
        self.assertEqual(light.next_dark(104), ("dark", 110))
        self.assertEqual(light.next_dark(99), ("dark", 99))
        self.assertEqual(light.next_dark(-10 ** 80)[0], "dark")

    def test_thousands_of_figures(self):
        far = 10 ** 6000
        light = light_of([(2, far), (4, far + 1), (4, far + 3)])
        self.assertEqual(light.next_dark(far), ("ever", [0, 1, 0, 2, 0, 1, 0, 2]))
        self.assertEqual(light_of([(far, 0), (far + 1, 1)]).next_dark(0), ("dark", 2))
        self.assertEqual(light_of([(2, far), (far, far + 1)]).next_dark(far), ("dark", far + 3))

    def test_kinds_of_what_is_told(self):
        for light in (light_of([(2, 0)]), light_of([(1, 0)])):
            for told in (light.next_dark(0), light.last_dark(0)):
                self.assertIs(type(told), tuple)
                self.assertEqual(len(told), 2)
        self.assertIs(type(light_of([(1, 0)]).next_dark(0)[1]), list)
        self.assertIs(type(light_of([(1, 0)]).last_dark(0)[1]), list)

    def test_what_was_told_may_be_handed_in_again(self):
        light = light_of([(FORTY, 3), (2, 0)])
        begin = -FORTY ** 2
        for _ in range(5):
            begin = light.next_dark(begin)[1] + 1
            self.assertFalse(light.is_bright(begin - 1))


class NoBeats(unittest.TestCase):
    def test_what_is_no_beat(self):
        for light in (Light([]), light_of([(1, 0)]), light_of([(2, 1), (3, 0)])):
            for thing in not_whole():
                for ask in (light.is_bright, light.shining, light.next_bright, light.next_dark, light.last_dark):
                    with self.assertRaises(NoBeat) as caught:
                        ask(thing)
                    self.assertIs(caught.exception.beat, thing)

    def test_by_name(self):
        light = light_of([(3, 1)])
        self.assertIs(light.is_bright(beat=1), True)
        self.assertEqual(light.shining(beat=1), [0])
        self.assertEqual(light.next_bright(begin=2), ("bright", 4))
        self.assertEqual(light.next_dark(begin=1), ("dark", 2))
        self.assertEqual(light.last_dark(begin=1), ("dark", 0))


COVERING_PARTS = [COVERING, COVERING[::-1]] + [COVERING[:at] + COVERING[at + 1:] for at in range(5)]


if __name__ == "__main__":
    unittest.main()
