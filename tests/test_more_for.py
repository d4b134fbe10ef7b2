"""Stage 7: more_for and check_more (7.3)."""

import unittest
from copy import deepcopy
from itertools import combinations, combinations_with_replacement, permutations
from math import lcm
from random import Random

from farlamps.errors import NoPaper, NoSize, TooMany
from farlamps.lamps import Lamp
from farlamps.lights import Light
from farlamps.made import check_more, more_for
from tests.test_set_for import none_left, put_into, ways_of
from tests.things import EqualToAll, Hostile, fields_of, light_of, mixed_lights, not_whole, numbers_at, small_lights

FORTY = 10 ** 39 + 7


def fewest_by_counting(pairs, menu, most):
    """How many lamps of the menu's periods leave no beat of a round dark, by trying all; None where most do not."""
    whole = lcm(*menu, *[period for period, beat in pairs])
    dark = [beat for beat in range(whole) if not numbers_at(pairs, beat)]
    for many in range(most + 1):
        for periods in combinations_with_replacement(menu, many):
            if none_left(list(periods), dark, whole):
                return many
    return None


def first_amiss(pairs, menu, most, tree, at=()):
    """The at of the first tree that is not made so, by what 7.2 and 7.3 say alone; None where all are."""
    if type(tree) is not tuple or len(tree) != 2:
        return at
    beat, branches = tree
    if type(beat) is not int or numbers_at(pairs, beat) or type(branches) is not list:
        return at
    if not all(type(branch) is tuple and len(branch) == 2 and type(branch[0]) is int for branch in branches):
        return at
    if [period for period, below in branches] != (sorted(menu) if most > 0 else []):
        return at
    for period, below in branches:
        found = first_amiss(pairs + [(period, beat)], menu, most - 1, below, at + (period,))
        if found is not None:
            return found
    return None


class Counted(unittest.TestCase):
    def assert_told(self, pairs, menu, most):
        light = light_of(pairs)
        told = more_for(light, menu, most)
        wanted = fewest_by_counting(pairs, menu, most)
        if wanted is None:
            self.assertEqual(told[0], "none", (pairs, menu, most))
            self.assertIsNone(first_amiss(pairs, menu, most, told[1]), (pairs, menu, most))
            self.assertIsNone(check_more(light, menu, most, told[1]))
        else:
            self.assertEqual(told[0], "lamps", (pairs, menu, most))
            self.assertEqual(len(told[1]), wanted, (pairs, menu, most))
            self.assertLessEqual({lamp.period for lamp in told[1]}, set(menu))
            self.assertEqual(Light(light.lamps() + told[1]).next_dark(0)[0], "ever")

    def test_small_lights(self):
        menus = [list(menu) for many in (1, 2, 3) for menu in combinations([1, 2, 3, 4, 6], many)]
        for pairs in small_lights(3, 1) + small_lights(2, 2) + [[(4, 1), (4, 3)], [(6, 0), (3, 1)], [(6, 1), (2, 0)]]:
            for menu in menus:
                for most in range(5):
                    self.assert_told(pairs, menu, most)

    def test_mixed_lights(self):
        chance = Random(93)
        for pairs in mixed_lights(92, 150, [0, 1, 2, 3, 4, 5, 6], [2, 3, 4, 6, 8, 12]):
            menu = chance.sample([2, 3, 4, 5, 6, 8, 12], chance.choice([1, 2, 3]))
            for most in range(min(4, 6 - len(pairs)) + 1):
                self.assert_told(pairs, menu, most)


class Edges(unittest.TestCase):
    def test_a_light_that_is_bright_for_ever(self):
        for pairs in ([(1, 0)], [(2, 0), (2, 1)], [(6, place) for place in range(6)]):
            for menu in ([1], [5, 7], (2, 3, FORTY)):
                for most in range(6 - len(pairs) + 1):
                    if most <= 4:
                        self.assertEqual(more_for(light_of(pairs), menu, most), ("lamps", []))

    def test_most_of_0(self):
        for pairs in ([], [(2, 1)], [(2, 1), (4, 0), (FORTY, 7)], [(7, place) for place in range(6)]):
            light = light_of(pairs)
            word, told = more_for(light, [1, 2], 0)
            self.assertEqual(word, "none")
            self.assertEqual(numbers_at(pairs, told[0]), [])
            self.assertEqual(told[1], [])
            self.assertIsNone(check_more(light, [1, 2], 0, told))

    def test_a_light_without_lamps(self):
        self.assertEqual(len(more_for(Light([]), [4], 4)[1]), 4)
        self.assertEqual(more_for(Light([]), [4], 3)[0], "none")
        self.assertEqual(len(more_for(Light([]), [4, 2], 4)[1]), 2)
        self.assertEqual(len(more_for(Light([]), [4, 2, 1], 4)[1]), 1)
        self.assertEqual(more_for(Light([]), [5, 6, 7], 4)[0], "none")

    def test_the_fewest_and_not_those_that_come_first(self):
        # Two lamps of period 2 or one of 3 are enough, whichever stands first on the menu.
        pairs = [(3, 0), (3, 1)]
        for menu in permutations([2, 3, 4]):
            word, lamps = more_for(light_of(pairs), list(menu), 3)
            self.assertEqual([(lamp.period, lamp.beat) for lamp in lamps], [(3, 2)])
        pairs = [(8, 0), (8, 2), (8, 4)]
        for menu in permutations([4, 8, 2]):
            lamps = more_for(light_of(pairs), menu, 3)[1]
            self.assertEqual(len(lamps), 2)
            self.assertEqual(Light(light_of(pairs).lamps() + lamps).next_dark(0)[0], "ever")

    def test_six_lamps_together(self):
        pairs = [(6, 0), (6, 1)]
        self.assertEqual(len(more_for(light_of(pairs), [6], 4)[1]), 4)
        word, told = more_for(light_of(pairs), [7, 6, 8], 4)
        self.assertEqual(word, "lamps")
        pairs = [(8, 0), (8, 1)]
        word, told = more_for(light_of(pairs), [7, 9, 8], 4)
        self.assertEqual(word, "none")
        self.assertEqual(len(ways_of(told)), 1 + 3 + 9 + 27 + 81)
        self.assertIsNone(check_more(light_of(pairs), (8, 7, 9), 4, told))
        self.assertIsNone(first_amiss(pairs, [7, 8, 9], 4, told))

    def test_great_periods(self):
        light = light_of([(2 * FORTY, 5), (2 * FORTY, 5 + FORTY), (2, 0)])
        self.assertEqual(more_for(light, [FORTY, 2, 3 * FORTY], 3)[0], "lamps")
        self.assertEqual(len(more_for(light, [FORTY, 4], 3)[1]), 2)
        word, told = more_for(light, [FORTY, FORTY + 1, 5], 3)
        self.assertEqual(word, "none")
        self.assertIsNone(check_more(light, [5, FORTY + 1, FORTY], 3, told))

    def test_thousands_of_figures(self):
        far = 10 ** 3000
        light = light_of([(far, 1), (2, far)])
        self.assertEqual([(lamp.period, lamp.beat) for lamp in more_for(light, [far, far + 1, 2], 4)[1]], [(2, 1)])
        word, told = more_for(light, [far, far + 1, 5], 4)
        self.assertEqual(word, "none")
        self.assertIsNone(check_more(light, [far, far + 1, 5], 4, told))


class Good(unittest.TestCase):
    def test_any_dark_beat_may_be_taken(self):
        light = light_of([(2, 0)])
        for beat in (1, -7, 2 * FORTY + 1, -2 * FORTY - 1):
            self.assertIsNone(check_more(light, [4], 1, (beat, [(4, (beat + 2 - 4 * FORTY, []))])))
            self.assertIsNone(check_more(light, [5, 4], 0, (beat, [])))

    def test_a_period_may_be_taken_again(self):
        tree = (0, [(4, (1, [(4, (2, []))])), (5, (1, [(4, (2, []))]))])
        with self.assertRaises(NoPaper):
            check_more(Light([]), [4, 5], 2, tree)
        tree = (0, [(4, (1, [(4, (2, [])), (5, (2, []))])), (5, (1, [(4, (2, [])), (5, (2, []))]))])
        self.assertIsNone(check_more(Light([]), [4, 5], 2, tree))
        self.assertIsNone(check_more(Light([]), (5, 4), 2, tree))


class Refused(unittest.TestCase):
    PAIRS = [(2, 0), (4, 1)]
    MENU = [6, 5]
    GOOD = more_for(light_of(PAIRS), MENU, 2)[1]

    def assert_at(self, at, tree, most=2, menu=None, pairs=None):
        with self.assertRaises(NoPaper) as caught:
            check_more(light_of(self.PAIRS if pairs is None else pairs), menu or self.MENU, most, tree)
        self.assertEqual(caught.exception.at, at)
        self.assertIs(type(caught.exception.at), tuple)
        self.assertEqual([part for part in caught.exception.at if type(part) is not int], [])

    def ways(self):
        """The ways to all trees of the good one, with the periods by which one comes there."""
        return [(way, tuple(5 + place for place in way)) for way in ways_of(self.GOOD)]

    def test_the_good_one_is_not(self):
        self.assertIsNone(check_more(light_of(self.PAIRS), self.MENU, 2, self.GOOD))
        self.assertEqual([at for way, at in self.ways()], [(), (5,), (5, 5), (5, 6), (6,), (6, 5), (6, 6)])

    def test_what_is_no_tuple_of_two(self):
        for thing in not_whole() + [0, 2, FORTY, (0,), (0, [], []), [3, []], "ab", {0: [], 1: []}, range(2)]:
            for way, at in self.ways():
                self.assert_at(at, put_into(self.GOOD, way, lambda tree: thing))

    def test_a_beat_that_is_none_or_bright(self):
        for thing in not_whole() + [0, 1, 2, 4, 5, -2, -3, 4 * FORTY + 1]:
            for way, at in self.ways():
                self.assert_at(at, put_into(self.GOOD, way, lambda tree: (thing, tree[1])))
        for way, at in self.ways():
            if way:
                # The one at which the last lamp was set.
                self.assert_at(at, put_into(self.GOOD, way[:-1], lambda tree: (tree[0], [
                    (period, (tree[0] - period * FORTY, below[1]) if place == way[-1] else below)
                    for place, (period, below) in enumerate(tree[1])])))

    def test_branches_that_are_none(self):
        for way, at in self.ways():
            for thing in [tuple, dict, lambda branches: None, lambda branches: branches + [None],
                          lambda branches: branches + [(7, (3, []))], lambda branches: [(4, (3, []))] + branches]:
                self.assert_at(at, put_into(self.GOOD, way, lambda tree: (tree[0], thing(tree[1]))))
            if len(way) < 2:
                for thing in [lambda branches: [], lambda branches: branches[:1], lambda branches: branches[1:],
                              lambda branches: branches[::-1], lambda branches: branches * 2,
                              lambda branches: [branches[0]] * 2, lambda branches: [list(branches[0]), branches[1]],
                              lambda branches: [branches[0], branches[1][:1]],
                              lambda branches: [branches[0] + (0,), branches[1]],
                              lambda branches: [branches[0], (5, branches[1][1])],
                              lambda branches: [(True, branches[0][1]), branches[1]],
                              lambda branches: [(5.0, branches[0][1]), branches[1]],
                              lambda branches: [(EqualToAll(), branches[0][1]), branches[1]],
                              lambda branches: [(Hostile(), branches[0][1]), Hostile()],
                              lambda branches: [branches[0], Hostile()], lambda branches: [[], branches[1]]]:
                    self.assert_at(at, put_into(self.GOOD, way, lambda tree: (tree[0], thing(tree[1]))))

    def test_trees_for_fewer_or_more(self):
        self.assert_at((), self.GOOD, 0)
        self.assert_at((5,), self.GOOD, 1)
        self.assert_at((5, 5), self.GOOD, 3)
        self.assert_at((5, 5), self.GOOD, 4)
        self.assert_at((), (3, []), 1)

    def test_trees_of_other_menus(self):
        self.assert_at((), self.GOOD, 2, [5])
        self.assert_at((), self.GOOD, 2, [5, 7])
        self.assert_at((), self.GOOD, 2, [6, 7, 5])

    def test_no_tree_where_there_are_lamps(self):
        self.assert_at((4,), (3, [(4, (5, []))]), 1, [4])
        for beat in range(4):
            self.assert_at((4,), (3, [(4, (beat, []))]), 1, [4])
        self.assert_at((), (3, []), 0, [4], [(2, 0), (2, 1)])

    def test_each_one_ahead_of_those_in_its_branches_and_these_in_order(self):
        paper = put_into(put_into(self.GOOD, (0, 1), lambda tree: None), (1,), lambda tree: None)
        self.assert_at((5, 6), paper)
        paper = put_into(put_into(self.GOOD, (0, 0), lambda tree: None), (0,), lambda tree: (tree[0] - 2, tree[1]))
        self.assert_at((5,), paper)

    def test_trees_by_other_lights(self):
        for pairs in mixed_lights(94, 12, [0, 1, 2, 3], [2, 3, 4, 6]):
            for others in mixed_lights(95, 12, [0, 1, 2, 3], [2, 3, 4, 6]):
                told = more_for(light_of(others), [3, 4], 2)
                if told[0] == "lamps":
                    continue
                at = first_amiss(pairs, [3, 4], 2, told[1])
                if at is None:
                    self.assertIsNone(check_more(light_of(pairs), [3, 4], 2, told[1]))
                else:
                    self.assert_at(at, told[1], 2, [3, 4], pairs)

    def test_nothing_is_changed(self):
        light, menu, tree = light_of(self.PAIRS), [6, 5], deepcopy(self.GOOD)
        check_more(light, menu, 2, tree)
        self.assertEqual((fields_of(light), menu, tree), (self.PAIRS, [6, 5], self.GOOD))


class RefusedAhead(unittest.TestCase):
    LIGHTS = [Light([]), light_of([(1, 0)]), light_of([(2, 1), (3, 0)]), light_of([(7, place) for place in range(10)])]

    def assert_refused(self, light, menu, most, kind, field, wanted):
        for ask in (lambda: more_for(light, menu, most), lambda: check_more(light, menu, most, (0, [])),
                    lambda: check_more(light, menu, most, None), lambda: check_more(light, menu, most, Hostile())):
            with self.assertRaises(kind) as caught:
                ask()
            self.assertEqual(getattr(caught.exception, field), wanted)

    def test_menus(self):
        bad = [None, True, 0, 2, 2.5, "", "23", b"\x02", {}, {2: 3}, set(), {2}, range(2, 4), iter([2]), object(), list,
               Lamp(2, 0), Hostile(), [], (), [2, 3, 4, 5], (1, 2, 3, 4), [2, 2], (3, 2, 3), [2, 3, 2, 3], [0], [-1],
               [2, 0], [3, -FORTY]]
        for thing in not_whole():
            bad += [[thing], (thing,), [2, thing], [thing, 2], [2, 3, thing], [1, thing]]
        for light in self.LIGHTS:
            for menu in bad:
                for most in (0, 3, 5, None, Hostile()):
                    self.assert_refused(light, menu, most, NoSize, "what", "menu")

    def test_most(self):
        for light in self.LIGHTS:
            for most in not_whole() + [-1, 5, 6, FORTY, -FORTY]:
                for menu in ([1], (2, 3, 4)):
                    self.assert_refused(light, menu, most, NoSize, "what", "most")

    def test_more_than_six_lamps_together(self):
        for many, most in ((3, 4), (4, 3), (5, 2), (6, 1), (6, 4), (7, 0), (10, 0), (10, 4)):
            for pairs in ([(1, 0)] * many, [(7, place) for place in range(many)]):
                self.assert_refused(light_of(pairs), [1], most, TooMany, "many", 6)

    def test_six_are_not_too_many(self):
        for many, most in ((2, 4), (3, 3), (4, 2), (5, 1), (6, 0)):
            pairs = [(7, place) for place in range(many)]
            self.assertEqual(more_for(light_of(pairs), [7], most)[0], "none")
            self.assertIsNone(check_more(light_of(pairs), [7], most, more_for(light_of(pairs), [7], most)[1]))


class Told(unittest.TestCase):
    def test_kinds(self):
        told = more_for(light_of([(2, 0)]), [4], 2)
        self.assertIs(type(told), tuple)
        self.assertEqual([type(part) for part in told], [str, list])
        self.assertEqual([type(lamp) for lamp in told[1]], [Lamp, Lamp])
        told = more_for(light_of([(2, 0)]), [4], 1)
        self.assertEqual([type(part) for part in told], [str, tuple])
        self.assertEqual([type(part) for part in told[1]], [int, list])
        self.assertEqual([type(part) for part in told[1][1][0]], [int, tuple])

    def test_new_each_time_and_nothing_is_changed_or_kept(self):
        light, menu = light_of([(2, 0)]), [5, 4]
        told = more_for(light, menu, 1)
        wanted = deepcopy(told)
        menu.append(9)
        self.assertEqual(told, wanted)
        told[1][1].clear()
        self.assertEqual(more_for(light, [5, 4], 1), wanted)
        self.assertEqual((fields_of(light), menu), ([(2, 0)], [5, 4, 9]))
        told = more_for(light, [2], 1)
        told[1].clear()
        self.assertEqual(len(more_for(light, [2], 1)[1]), 1)

    def test_by_name_in_any_order(self):
        light = light_of([(2, 0)])
        self.assertEqual(len(more_for(most=1, menu=[2], light=light)[1]), 1)
        self.assertIsNone(check_more(tree=(1, []), most=0, menu=[2], light=light))


if __name__ == "__main__":
    unittest.main()
