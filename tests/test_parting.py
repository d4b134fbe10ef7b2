"""Stage 4: within (4.3), parted and parted_back (4.4), and what 4.6 says of them."""

import unittest

from farlamps.errors import NoBeat
from farlamps.lights import Light
from farlamps.parting import check_within, parted, parted_back, within
from tests.things import (
    doubling, fields_of, light_of, mixed_lights, not_whole, numbers_at, round_of, small_lights,
)

FORTY = 10 ** 39 + 7
COVERING = [(2, 0), (3, 0), (4, 1), (6, 5), (12, 7)]


def papers_by_counting(one, other):
    """The least papers that the one is within the other."""
    return [
        [numbers_at(other, beat + place * period)[0] for place in range(2 ** len(other))] for period, beat in one
    ]


def brightness(pairs, whole):
    """Of each beat of a round whether it is bright."""
    return [bool(numbers_at(pairs, beat)) for beat in range(whole)]


class Pair:
    """Two lists of pairs, and what is to be told of them by plain counting."""

    def __init__(self, one, other):
        self.one, self.other = one, other
        self.whole = round_of(one, other)
        ones, others = brightness(one, self.whole), brightness(other, self.whole)
        self.left = [bright and not there for bright, there in zip(ones, others)]
        self.parting = [bright != there for bright, there in zip(ones, others)]

    def first(self, rounds, begin):
        return next(beat for beat in range(begin, begin + self.whole) if rounds[beat % self.whole])

    def last(self, rounds, begin):
        return next(beat for beat in range(begin, begin - self.whole, -1) if rounds[beat % self.whole])

    def within(self, begin):
        if any(self.left):
            return ("beat", self.first(self.left, begin))
        return ("within", papers_by_counting(self.one, self.other))

    def alike(self):
        return ("alike", papers_by_counting(self.one, self.other), papers_by_counting(self.other, self.one))

    def parted(self, begin):
        return ("beat", self.first(self.parting, begin)) if any(self.parting) else self.alike()

    def parted_back(self, begin):
        return ("beat", self.last(self.parting, begin)) if any(self.parting) else self.alike()


class Counted(unittest.TestCase):
    def assert_told(self, one, other, begins):
        counted = Pair(one, other)
        lights = light_of(one), light_of(other)
        for begin in begins:
            self.assertEqual(within(*lights, begin=begin), counted.within(begin), (one, other, begin))
            self.assertEqual(parted(*lights, begin=begin), counted.parted(begin), (one, other, begin))
            self.assertEqual(parted_back(*lights, begin=begin), counted.parted_back(begin), (one, other, begin))

    def test_all_small_lights_two_by_two(self):
        every = small_lights(3, 2)
        for one in every:
            for other in every:
                self.assert_told(one, other, (-8, -1, 0, 1, 5))

    def test_small_lights_of_more_lamps(self):
        every = small_lights(4, 1) + [pairs for pairs in small_lights(3, 3) if len(pairs) == 3][::5]
        for one in every:
            for other in every:
                self.assert_told(one, other, (-3, 4))

    def test_mixed_lights(self):
        every = mixed_lights(31, 40, [2, 3, 4, 5], [1, 2, 3, 4, 6]) + [COVERING, COVERING[::-1], COVERING[1:]]
        for one in every:
            for other in every:
                self.assert_told(one, other, (-50, 7))

    def test_mixed_lights_of_many_lamps(self):
        every = mixed_lights(32, 10, [7, 8, 9, 10], [2, 3, 4, 5, 6])
        for one in every:
            for other in every:
                self.assert_told(one, other, (-1, 0))
                self.assert_told(one, one[::-1], (3,))

    def test_begin_is_0_where_nothing_is_told(self):
        for one in small_lights(3, 2)[::3]:
            for other in small_lights(3, 2)[::2]:
                counted = Pair(one, other)
                lights = light_of(one), light_of(other)
                self.assertEqual(within(*lights), counted.within(0))
                self.assertEqual(parted(*lights), counted.parted(0))
                self.assertEqual(parted_back(*lights), counted.parted_back(0))


class Edges(unittest.TestCase):
    NONE = Light([])

    def test_two_lights_without_lamps(self):
        self.assertEqual(within(self.NONE, self.NONE), ("within", []))
        self.assertEqual(parted(self.NONE, self.NONE, begin=-5), ("alike", [], []))
        self.assertEqual(parted_back(self.NONE, self.NONE), ("alike", [], []))

    def test_one_light_without_lamps(self):
        light = light_of([(5, 3)])
        self.assertEqual(within(self.NONE, light), ("within", []))
        self.assertEqual(within(light, self.NONE), ("beat", 3))
        self.assertEqual(within(light, self.NONE, begin=4), ("beat", 8))
        for one, other in ((light, self.NONE), (self.NONE, light)):
            self.assertEqual(parted(one, other, begin=-1), ("beat", 3))
            self.assertEqual(parted_back(one, other), ("beat", -2))

    def test_a_light_that_is_bright_for_ever(self):
        steady = light_of([(2, 0), (2, 1)])
        self.assertEqual(within(light_of([(3, 1)]), steady), ("within", [[1, 0, 1, 0]]))
        self.assertEqual(within(light_of([(3, 1)] * 2), light_of([(1, 0)])), ("within", [[0, 0], [0, 0]]))
        self.assertEqual(parted(steady, light_of([(1, 0)])), ("alike", [[0, 0], [0, 0]], [[0, 1, 0, 1]]))
        self.assertEqual(parted_back(light_of([(3, 1)]), steady), ("beat", 0))
        self.assertEqual(parted_back(light_of([(3, 1)]), steady, begin=4), ("beat", 3))
        self.assertEqual(within(steady, light_of([(3, 1)])), ("beat", 0))

    def test_begin_itself_counts(self):
        one, other = light_of([(10, 4)]), light_of([(10, 6)])
        for begin, ahead, behind in ((4, 4, 4), (5, 6, 4), (6, 6, 6), (7, 14, 6), (3, 4, -4), (-4, -4, -4)):
            self.assertEqual(parted(one, other, begin=begin), ("beat", ahead))
            self.assertEqual(parted_back(one, other, begin=begin), ("beat", behind))
        self.assertEqual(within(one, other, begin=4), ("beat", 4))
        self.assertEqual(within(one, other, begin=5), ("beat", 14))

    def test_each_lamp_has_its_list_equal_and_needless_ones_too(self):
        one = light_of([(4, 2), (2, 0), (4, 2), (8, 6)])
        other = light_of([(6, 1), (2, 0), (2, 0)])
        self.assertEqual(within(one, other), ("within", [[1] * 8] * 4))
        self.assertEqual(parted(one, light_of([(2, 0)])), ("alike", [[0, 0]] * 4, [[1, 0] * 8]))

    def test_papers_begin_at_own_beats_0_wherever_begin_lies(self):
        one, other = light_of([(3, 2)]), light_of([(2, 0), (2, 1)])
        for begin in (-FORTY, -1, 0, 1, 2, 3, FORTY):
            self.assertEqual(within(one, other, begin=begin), ("within", [[0, 1, 0, 1]]))
            self.assertEqual(parted(light_of([(1, 0)]), other, begin=begin),
                             ("alike", [[0, 1, 0, 1]], [[0, 0], [0, 0]]))
            self.assertEqual(parted_back(light_of([(1, 0)]), other, begin=begin),
                             ("alike", [[0, 1, 0, 1]], [[0, 0], [0, 0]]))

    def test_parted_only_at_the_last_look(self):
        for many in range(1, 11):
            light, always = light_of(doubling(many)), light_of([(1, 0)])
            wait = 2 ** many
            self.assertEqual(within(light, always), ("within", [[0, 0]] * many))
            self.assertEqual(within(always, light, begin=1), ("beat", wait))
            self.assertEqual(parted(light, always, begin=1), ("beat", wait))
            self.assertEqual(parted(always, light, begin=1 - FORTY * wait), ("beat", wait - FORTY * wait))
            self.assertEqual(parted_back(always, light, begin=-1), ("beat", -wait))
            self.assertEqual(parted_back(light, always, begin=FORTY * wait - 1), ("beat", FORTY * wait - wait))

    def test_the_same_with_own_beats_far_from_each_other(self):
        period = 2 * FORTY + 1
        for many in (1, 4, 10):
            wait = 2 ** many
            other = light_of([(2 ** (place + 1), 5 + period * 2 ** place) for place in range(many)])
            one = light_of([(period, 5)])
            self.assertEqual(within(one, other, begin=6), ("beat", 5 + period * wait))
            self.assertEqual(within(one, other, begin=5 + period * wait), ("beat", 5 + period * wait))
            self.assertEqual(within(one, other, begin=-period * wait + 6), ("beat", 5))
            joined = light_of([(2 ** (place + 1), 5 + period * 2 ** place) for place in range(many - 1)] + [(1, 0)])
            self.assertEqual(within(one, joined)[0], "within")

    def test_great_periods_without_common_parts(self):
        one = light_of([(FORTY, 3), (FORTY + 1, 3)])
        other = light_of([(FORTY, 3), (FORTY + 2, 3)])
        self.assertEqual(parted(one, other), ("beat", FORTY + 4))
        self.assertEqual(parted(other, one, begin=FORTY + 5), ("beat", FORTY + 5))
        self.assertEqual(parted(other, one, begin=FORTY + 6), ("beat", 2 * FORTY + 5))
        self.assertEqual(parted_back(one, other), ("beat", 2 - FORTY))
        self.assertEqual(parted_back(one, other, begin=1 - FORTY), ("beat", 1 - FORTY))
        self.assertEqual(within(other, one), ("beat", FORTY + 5))

    def test_great_periods_with_common_parts(self):
        one = light_of([(2 * FORTY, 9), (2 * FORTY, 9 + FORTY), (6 * FORTY, 9)])
        other = light_of([(3 * FORTY, 9 + place * FORTY) for place in range(3)])
        first, last = [0, 2, 1, 0, 2, 1, 0, 2], [1, 0, 2, 1, 0, 2, 1, 0]
        self.assertEqual(within(one, other), ("within", [first, last, [0] * 8]))
        self.assertEqual(parted(one, other, begin=FORTY)[0], "alike")
        self.assertEqual(within(one, light_of([(3 * FORTY, 9), (3 * FORTY, 9 + FORTY)])), ("beat", 9 + 2 * FORTY))
        self.assertEqual(parted_back(one, light_of([(FORTY, 9), (FORTY ** 2, 8)])), ("beat", 8 - FORTY ** 2))

    def test_thousands_of_figures(self):
        far = 10 ** 2000
        one, other = light_of([(far, 1), (far + 1, 0)]), light_of([(far, 1), (2 * far + 2, 0)])
        # At far + 1 the first lamp shines in both.
        self.assertEqual(parted(one, other), ("beat", 3 * far + 3))
        self.assertEqual(within(other, one), ("within", [[0] * 4, [1] * 4]))
        self.assertEqual(parted_back(one, other, begin=far * far)[0], "beat")

    def test_ten_lamps_each(self):
        one = light_of([(10, place) for place in range(10)])
        other = light_of([(10, 9 - place) for place in range(10)])
        word, ahead, back = parted(one, other)
        self.assertEqual(word, "alike")
        self.assertEqual(ahead, [[9 - place] * 1024 for place in range(10)])
        self.assertEqual(back, ahead)


class Said(unittest.TestCase):
    def test_a_parting_beat_is_never_far(self):
        every = mixed_lights(33, 60, [0, 1, 2, 3, 4, 6], [1, 2, 3, 4, 5, 6, 8, 9, FORTY, 2 * FORTY])
        for one, other in zip(every, every[::-1]):
            lights = light_of(one), light_of(other)
            for begin in (-FORTY, 0, 3, FORTY ** 2):
                told = parted(*lights, begin=begin)
                back = parted_back(*lights, begin=begin)
                self.assertEqual(told[0], back[0])
                if told[0] == "beat":
                    long = max(period for period, beat in one + other) * 2 ** max(len(one), len(other))
                    self.assertTrue(begin <= told[1] < begin + long)
                    self.assertTrue(begin - long < back[1] <= begin)
                    for beat in (told[1], back[1]):
                        self.assertNotEqual(bool(numbers_at(one, beat)), bool(numbers_at(other, beat)))

    def test_alike_just_where_each_is_within_the_other(self):
        every = mixed_lights(34, 25, [1, 2, 3], [1, 2, 3, 4, 6, FORTY])
        for one in every:
            for other in every:
                lights = light_of(one), light_of(other)
                ahead, back = within(*lights), within(*lights[::-1])
                told = parted(*lights)
                if ahead[0] == back[0] == "within":
                    self.assertEqual(told, ("alike", ahead[1], back[1]))
                else:
                    self.assertEqual(told, ("beat", min(found[1] for found in (ahead, back) if found[0] == "beat")))

    def test_told_papers_are_good(self):
        every = mixed_lights(35, 60, [1, 2, 3, 4, 5], [1, 2, 3, 4, 6, 2 * FORTY])
        for one in every:
            for other in every:
                told = within(light_of(one), light_of(other))
                if told[0] == "within":
                    self.assertIsNone(check_within(light_of(one), light_of(other), told[1]))


class NoBeats(unittest.TestCase):
    def test_what_is_no_beat(self):
        lights = [Light([]), light_of([(1, 0)]), light_of([(2, 1), (3, 0)])]
        for ask in (within, parted, parted_back):
            for one in lights:
                for other in lights:
                    for thing in not_whole():
                        with self.assertRaises(NoBeat) as caught:
                            ask(one, other, begin=thing)
                        self.assertIs(caught.exception.beat, thing)

    def test_begin_is_handed_in_by_its_name_alone(self):
        light = light_of([(2, 0)])
        for ask in (within, parted, parted_back):
            with self.assertRaises(TypeError):
                ask(light, light, 0)


class Told(unittest.TestCase):
    def test_kinds(self):
        one, other = light_of([(4, 2)]), light_of([(2, 0)])
        for told in (within(one, other), within(other, one), parted(one, other), parted_back(one, other),
                     parted(one, one), parted_back(one, one)):
            self.assertIs(type(told), tuple)
            for papers in told[1:]:
                if told[0] == "beat":
                    self.assertIs(type(papers), int)
                else:
                    self.assertIs(type(papers), list)
                    self.assertEqual([type(paper) for paper in papers], [list])
                    self.assertIs(type(papers[0][0]), int)
        self.assertEqual([len(told) for told in (within(one, other), parted(one, other), parted(one, one))], [2, 2, 3])

    def test_new_each_time(self):
        one, other = light_of([(2, 0), (2, 0)]), light_of([(2, 0), (4, 2)])
        asks = [lambda: within(one, other), lambda: parted(one, other), lambda: parted_back(one, other),
                lambda: parted(one, one)]
        for ask in asks:
            told, again = ask(), ask()
            lists = [papers for papers in told[1:]] + [paper for papers in told[1:] for paper in papers]
            self.assertEqual(len({id(one_list) for one_list in lists}), len(lists))
            for papers in told[1:]:
                papers[0][0] = 9
                papers[1].append(7)
                papers.append("more")
            self.assertEqual(ask(), again)

    def test_nothing_is_changed(self):
        pairs = [(2, 0), (4, 2)]
        one, other = light_of(pairs), light_of(pairs[::-1])
        for ask in (within, parted, parted_back):
            ask(one, other, begin=3)
        self.assertEqual(fields_of(one), pairs)
        self.assertEqual(fields_of(other), pairs[::-1])

    def test_by_name_in_any_order(self):
        one, other = light_of([(4, 2)]), light_of([(2, 0)])
        self.assertEqual(within(begin=1, other=one, one=other), ("beat", 4))
        self.assertEqual(within(other=other, one=one), ("within", [[0, 0]]))
        self.assertEqual(parted(begin=1, other=other, one=one), ("beat", 4))
        self.assertEqual(parted_back(begin=-1, other=other, one=one), ("beat", -4))


if __name__ == "__main__":
    unittest.main()
