"""The whole program: what one part tells is taken by the others, and their answers go together."""

import unittest
from copy import deepcopy
from fractions import Fraction

from farlamps.counts import by_many, dark_between, nth_dark, share
from farlamps.errors import LampError
from farlamps.idle import check_go, idle, least_kept, may_go, needed
from farlamps.lamps import Lamp
from farlamps.led import clash, fits, sure, watch_on
from farlamps.lights import Light, check_ever
from farlamps.made import check_more, check_none, more_for, set_for
from farlamps.moved import both, joined, moved, stretched, thinned, without
from farlamps.parting import check_within, parted, within
from farlamps.stretches import check_longest, longest_bright, stretch_at, tree
from tests.things import Hostile, doubling, fields_of, light_of, mixed_lights

FORTY = 10 ** 39 + 7
FAR = 10 ** 1500 + 1

LIGHTS = (mixed_lights(121, 60, [0, 1, 2, 3, 4, 5, 6], [2, 3, 4, 5, 6, 8, 12])
          + mixed_lights(122, 15, [1, 2, 3], [2, 4, FORTY, 2 * FORTY, FORTY + 1])
          + mixed_lights(123, 4, [2, 3], [3, FAR, 2 * FAR]) + [[(1, 0)], [(2, 0), (2, 1)], doubling(6)])


def is_ever(light):
    return light.next_dark(0)[0] == "ever"


class PapersAgain(unittest.TestCase):
    def test_of_lights(self):
        for pairs in LIGHTS:
            light = light_of(pairs)
            told = longest_bright(light)
            if told[0] == "ever":
                self.assertIsNone(check_ever(light, 0, told[1]))
                self.assertIsNone(tree(light, light.wait()))
                continue
            self.assertIsNone(check_longest(light, told[1], tree(light, told[1])))

    def test_of_lamps_that_go(self):
        for pairs in LIGHTS:
            light = light_of(pairs)
            numbers = [number for number in range(len(pairs)) if number not in least_kept(light)]
            word, papers = may_go(light, numbers)
            self.assertEqual(word, "go")
            self.assertIsNone(check_go(light, numbers, papers))
            left = without(light, numbers)
            self.assertEqual(parted(light, left)[0], "alike")
            self.assertEqual(idle(left), [])
            self.assertIsNone(check_within(light, left, within(light, left)[1]))
            self.assertEqual(longest_bright(left)[0], longest_bright(light)[0])

    def test_of_lamps_to_be_set(self):
        for pairs in LIGHTS:
            periods = [period for period, beat in pairs]
            word, told = set_for(periods)
            if word == "none":
                self.assertIsNone(check_none(periods, told))
                self.assertFalse(is_ever(light_of(pairs)))
                continue
            light = Light(told)
            self.assertIsNone(check_ever(light, 0, light.next_dark(0)[1]))
            self.assertEqual(longest_bright(light)[0], "ever")
            self.assertEqual(more_for(without(light, [0]), [periods[0]], 1)[0], "lamps")

    def test_of_lamps_to_be_put_to_a_light(self):
        for pairs in LIGHTS:
            light = light_of(pairs)
            most = min(4, 6 - len(pairs))
            for menu in ([2], [3, 4, FORTY], [FAR, 6]):
                word, told = more_for(light, menu, most)
                if word == "none":
                    self.assertIsNone(check_more(light, menu, most, told))
                    continue
                self.assertTrue(is_ever(joined(light, Light(told))))
                if told:
                    word, tree_told = more_for(light, menu, len(told) - 1)
                    self.assertEqual(word, "none")
                    self.assertIsNone(check_more(light, menu, len(told) - 1, tree_told))

    def test_told_lights_again(self):
        for pairs in LIGHTS[::3]:
            light = light_of(pairs)
            for told in (moved(light, FORTY), stretched(light, 3), thinned(light, Lamp(6, 1)),
                         both(light, light_of([(4, 1)])), both(light, light_of([(FAR, 2)])), without(light, [])):
                self.assertEqual(Light(told.lamps()), told)
                answer = longest_bright(told)
                if answer[0] == "ever":
                    self.assertIsNone(check_ever(told, 0, answer[1]))
                    continue
                self.assertIsNone(check_longest(told, answer[1], tree(told, answer[1])))
                self.assertEqual(dark_between(told, answer[2], answer[2] + answer[1]), 0)
                self.assertEqual(moved(moved(told, FAR), -FAR), told)


class Stretches(unittest.TestCase):
    def test_the_longest_is_a_stretch(self):
        for pairs in LIGHTS:
            light = light_of(pairs)
            told = longest_bright(light)
            if told[0] == "ever" or not pairs:
                continue
            long, begin = told[1:]
            self.assertEqual(stretch_at(light, begin), ("bright", begin, begin + long - 1))
            self.assertEqual(light.next_dark(begin), ("dark", begin + long))
            self.assertEqual(light.last_dark(begin), ("dark", begin - 1))
            self.assertEqual(dark_between(light, begin - 1, begin + long + 1), 2)

    def test_moved_and_stretched(self):
        for pairs in LIGHTS:
            light = light_of(pairs)
            told = longest_bright(light)
            for by in (1, -5, FORTY):
                self.assertEqual(longest_bright(moved(light, by))[0], told[0])
                if told[0] == "stretch":
                    self.assertEqual(longest_bright(moved(light, by))[1], told[1])
                self.assertEqual(share(moved(light, by)), share(light))
            thrice = stretched(light, 3)
            if pairs:
                self.assertEqual(longest_bright(thrice)[:2], ("stretch", 1))
            self.assertEqual(1 - Fraction(*share(thrice)), (1 - Fraction(*share(light))) / 3)
            self.assertEqual([thrice.is_bright(beat) for beat in range(0, 30, 3)],
                             [light.is_bright(beat) for beat in range(10)])

    def test_dark_beats_stand_between_stretches(self):
        for pairs in LIGHTS[::4]:
            light = light_of(pairs)
            if is_ever(light):
                self.assertEqual(nth_dark(light, 0), ("ever",))
                continue
            beats = [nth_dark(light, number)[1] for number in range(6)]
            for one, other in zip(beats, beats[1:]):
                if other > one + 1:
                    self.assertEqual(stretch_at(light, one + 1), ("bright", one + 1, other - 1))
                else:
                    self.assertEqual(stretch_at(light, one), stretch_at(light, other))


class LightsOfLights(unittest.TestCase):
    def test_within(self):
        for one, other in zip(LIGHTS, LIGHTS[1:]):
            if len(one) * len(other) > 10 or len(one) + len(other) > 10:
                continue
            one, other = light_of(one), light_of(other)
            for part in (one, other):
                self.assertEqual(within(both(one, other), part)[0], "within")
                self.assertEqual(within(part, joined(one, other))[0], "within")
            beats = (0, 40)
            dark = [dark_between(light, *beats) for light in (one, other, both(one, other), joined(one, other))]
            self.assertEqual(dark[0] + dark[1], dark[2] + dark[3])

    def test_idle_lamps_by_what_is_seen_from_them(self):
        for pairs in LIGHTS:
            light = light_of(pairs)
            for number, lamp in enumerate(light.lamps()):
                seen = thinned(without(light, [number]), lamp)
                self.assertEqual(number in idle(light), is_ever(seen))
                if number not in idle(light):
                    dark = seen.next_dark(0)[1]
                    self.assertIn((number, lamp.beat + dark * lamp.period), needed(light))

    def test_counts(self):
        for pairs in LIGHTS[::5]:
            light = light_of(pairs)
            self.assertEqual(by_many(moved(light, FORTY), FORTY - 5, FORTY + 70), by_many(light, -5, 70))


class Windows(unittest.TestCase):
    def test_told_sets_are_lights_that_fit(self):
        for begin, signs in ((0, "bdd?b"), (-9, "dbdb?d"), (FORTY, "bddbd")):
            for chosen in fits((begin, signs), 2, 6):
                light = Light([Lamp(period, beat) for period, beat in chosen])
                self.assertEqual(fields_of(light), list(chosen))
                for place, sign in enumerate(signs):
                    if sign != "?":
                        self.assertEqual(light.is_bright(begin + place), sign == "b")

    def test_what_is_sure_is_so_when_it_is_watched(self):
        window = (4, "bdd?d")
        self.assertIsNone(clash(window, 2, 6))
        begin, signs = window
        for beat in range(begin + len(signs), begin + 20):
            word = sure(window, 2, 6, beat)
            between = "?" * (beat - begin - len(signs))
            for sign, other in (("b", "dark"), ("d", "bright")):
                told = clash((begin, signs + between + sign), 2, 6)
                self.assertEqual(told, beat - begin if word == other else None)

    def test_who_watches_on_so_long_knows(self):
        window = (2, "dbd")
        many = watch_on(window, 2, 4)
        for chosen in fits(window, 2, 4):
            light = light_of(chosen)
            begin = window[0]
            signs = "".join("b" if light.is_bright(beat) else "d" for beat in range(begin, begin + 3 + many))
            left = fits((begin, signs), 2, 4)
            self.assertIn(chosen, left)
            self.assertEqual(watch_on((begin, signs), 2, 4), 0)
            for other in left:
                self.assertEqual(parted(light, light_of(other))[0], "alike")


class Whole(unittest.TestCase):
    def test_refusals_of_the_later_stages_are_lamp_errors(self):
        light = light_of([(2, 0)])
        asks = (
            lambda: stretch_at(light, None), lambda: longest_bright(light_of(doubling(7))), lambda: tree(light, -1),
            lambda: check_longest(light, 1, None), lambda: set_for(None), lambda: set_for([2] * 7),
            lambda: check_none([2], None), lambda: more_for(light, [], 1), lambda: check_more(light, [2], 0, None),
            lambda: fits(None, 1, 1), lambda: clash((None, "b"), 1, 1), lambda: sure((0, "b"), 1, 1, None),
            lambda: watch_on((0, "b"), 0, 1), lambda: moved(light, None), lambda: stretched(light, 0),
            lambda: without(light, None), lambda: joined(light_of(doubling(6)), light_of(doubling(6))),
        )
        for ask in asks:
            with self.assertRaises(LampError) as caught:
                ask()
            self.assertIsInstance(caught.exception, ValueError)
            self.assertIs(type(caught.exception).__mro__[1], LampError)

    def test_what_is_refused_is_kept_itself_and_shown_by_nobody(self):
        light, thing = light_of([(2, 0)]), Hostile()
        for ask, field in ((lambda: stretch_at(light, thing), "beat"), (lambda: moved(light, thing), "beat"),
                           (lambda: sure((0, "b"), 1, 1, thing), "beat"), (lambda: without(light, thing), "number"),
                           (lambda: without(light, [thing]), "number")):
            with self.assertRaises(LampError) as caught:
                ask()
            self.assertIs(getattr(caught.exception, field), thing)
            self.assertIs(type(str(caught.exception)), str)

    def test_lights_are_as_they_were(self):
        for pairs in LIGHTS[::6]:
            light = light_of(pairs)
            ahead = deepcopy(light.lamps())
            told = longest_bright(light)
            if told[0] == "stretch":
                check_longest(light, told[1], tree(light, told[1]))
            stretch_at(light, 0)
            more_for(light, [2, 5], min(4, 6 - len(pairs)))
            both(light, light_of([(3, 0)]))
            moved(light, 5)
            stretched(light, 2)
            thinned(light, Lamp(2, 1))
            self.assertEqual(light.lamps(), ahead)
            self.assertEqual(light, light_of(pairs))


if __name__ == "__main__":
    unittest.main()
