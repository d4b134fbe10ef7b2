"""Stage 8: fits, clash, sure and watch_on (8.1 to 8.4)."""

import unittest
from itertools import combinations, product
from math import lcm
from random import Random

from farlamps.errors import NoBeat, NoSize, NoWindow
from farlamps.led import clash, fits, sure, watch_on
from farlamps.parting import parted
from tests.things import Hostile, light_of, not_whole, numbers_at, pairs_up_to

FORTY = 10 ** 39 + 7


def sets_by_counting(most, longest):
    """All sets of none to most unlike lamps, in the order in which they are to be told."""
    return [chosen for many in range(most + 1) for chosen in combinations(sorted(pairs_up_to(longest)), many)]


def lets_be(chosen, begin, signs):
    """Whether the light of a set is bright at each b and dark at each d."""
    for place, sign in enumerate(signs):
        bright = bool(numbers_at(chosen, begin + place))
        if (sign == "b" and not bright) or (sign == "d" and bright):
            return False
    return True


def fits_by_counting(window, most, longest):
    return [chosen for chosen in sets_by_counting(most, longest) if lets_be(chosen, *window)]


def clash_by_counting(window, most, longest):
    """The first sign by which, with all ahead of it, none fits: sign by sign."""
    begin, signs = window
    left = sets_by_counting(most, longest)
    for place in range(len(signs)):
        left = [chosen for chosen in left if lets_be(chosen, begin + place, signs[place])]
        if not left:
            return place
    return None


def sure_by_counting(window, most, longest, beat):
    seen = {bool(numbers_at(chosen, beat)) for chosen in fits_by_counting(window, most, longest)}
    if not seen:
        return "clash"
    if len(seen) == 2:
        return "open"
    return "bright" if seen == {True} else "dark"


def watch_by_counting(window, most, longest):
    """The least number of beats behind the window by which all that are unlike over a whole round are told apart."""
    begin = window[0] + len(window[1])
    whole = lcm(*range(1, longest + 1))
    unlike = sorted({tuple(bool(numbers_at(chosen, begin + by)) for by in range(whole))
                     for chosen in fits_by_counting(window, most, longest)})
    many = 0
    while len({seen[:many] for seen in unlike}) < len(unlike):
        many += 1
    return many


def windows_of(seed, how_many, longs, begins, chosen_signs="bd?"):
    """Windows, the same ones at each run: some of any signs, some of a light that was watched."""
    chance = Random(seed)
    windows = []
    for _ in range(how_many):
        begin, long = chance.choice(begins), chance.choice(longs)
        signs = "".join(chance.choice(chosen_signs) for _ in range(long))
        if chance.random() < 0.7:
            pairs = [chance.choice(pairs_up_to(8)) for _ in range(chance.randrange(4))]
            seen = ["b" if numbers_at(pairs, begin + place) else "d" for place in range(long)]
            signs = "".join("?" if chance.random() < 0.2 else sign for sign in seen)
        windows.append((begin, signs))
    return windows


class Counted(unittest.TestCase):
    def assert_told(self, window, most, longest, beats):
        self.assertEqual(fits(window, most, longest), fits_by_counting(window, most, longest))
        self.assertEqual(clash(window, most, longest), clash_by_counting(window, most, longest))
        self.assertEqual(watch_on(window, most, longest), watch_by_counting(window, most, longest))
        for beat in beats:
            self.assertEqual(sure(window, most, longest, beat), sure_by_counting(window, most, longest, beat))

    def test_all_short_windows(self):
        for long in range(1, 5):
            for signs in product("bd?", repeat=long):
                for begin in (0, -2):
                    self.assert_told((begin, "".join(signs)), 1, 3, (-1, 0, 3, 7))
                self.assert_told((5, "".join(signs)), 2, 3, (4, 9, 10))

    def test_mixed_windows(self):
        for window in windows_of(101, 60, [1, 2, 3, 5, 8, 13, 30, 60], [0, 1, -5, 100, -1000]):
            self.assert_told(window, 1, 6, (window[0], 0, 17))
            self.assert_told(window, 2, 4, (window[0] - 1, 23))
        for window in windows_of(102, 15, [2, 5, 9, 20, 60], [0, -7, 31]):
            self.assert_told(window, 3, 4, (window[0] + 21, -21))
            self.assert_told(window, 2, 6, (window[0] + 21, -21))

    def test_the_most_and_the_longest(self):
        for window in windows_of(103, 4, [10, 25, 60], [0, 13, -5]):
            self.assertEqual(fits(window, 3, 8), fits_by_counting(window, 3, 8))
            self.assertEqual(clash(window, 3, 8), clash_by_counting(window, 3, 8))
            self.assertEqual(sure(window, 3, 8, 70), sure_by_counting(window, 3, 8, 70))
        window = (3, "bdddbddbdbddbdddbdd")
        self.assertEqual(fits(window, 3, 8), fits_by_counting(window, 3, 8))
        self.assertEqual(watch_on(window, 3, 8), watch_by_counting(window, 3, 8))

    def test_where_the_window_lies_hangs_on_the_round_alone(self):
        for begin, signs in windows_of(104, 10, [4, 8, 20], [0, 1, 5]):
            far = begin + 840 * FORTY
            self.assertEqual(fits((far, signs), 2, 8), fits((begin, signs), 2, 8))
            self.assertEqual(clash((far, signs), 2, 8), clash((begin, signs), 2, 8))
            self.assertEqual(watch_on((far, signs), 2, 8), watch_on((begin, signs), 2, 8))
            for beat in (begin + 30, begin - 30):
                told = sure((begin, signs), 2, 8, beat)
                self.assertEqual(sure((far, signs), 2, 8, beat), told)
                self.assertEqual(sure((begin, signs), 2, 8, beat - 840 * FORTY), told)
                self.assertEqual(sure((begin, signs), 2, 8, beat + 840 * 10 ** 3000), told)


class Edges(unittest.TestCase):
    def test_the_order_of_sets(self):
        self.assertEqual(fits((0, "?"), 2, 2), [
            (), ((1, 0),), ((2, 0),), ((2, 1),),
            ((1, 0), (2, 0)), ((1, 0), (2, 1)), ((2, 0), (2, 1)),
        ])
        self.assertEqual(fits((7, "?"), 1, 3), [(), ((1, 0),), ((2, 0),), ((2, 1),), ((3, 0),), ((3, 1),), ((3, 2),)])
        told = fits((0, "?"), 3, 8)
        self.assertEqual(len(told), 1 + 36 + 630 + 7140)
        self.assertEqual(told, sorted(told, key=lambda chosen: (len(chosen), chosen)))

    def test_windows_of_one_sign(self):
        self.assertEqual(fits((1, "b"), 1, 2), [((1, 0),), ((2, 1),)])
        self.assertEqual(fits((1, "d"), 1, 2), [(), ((2, 0),)])
        self.assertEqual(fits((1, "?"), 1, 2), [(), ((1, 0),), ((2, 0),), ((2, 1),)])
        for sign in "bd?":
            self.assertIsNone(clash((1, sign), 1, 1))
        self.assertEqual(fits((FORTY, "b"), 1, 1), [((1, 0),)])

    def test_windows_of_sixty(self):
        signs = "bddd" * 15
        self.assertEqual(fits((2, signs), 1, 8), [((4, 2),)])
        self.assertIn(((4, 2), (8, 6)), fits((2, signs), 2, 8))
        self.assertIn(((8, 2), (8, 6)), fits((2, signs), 2, 8))
        self.assertIsNone(clash((2, signs), 1, 8))
        self.assertEqual(clash((2, signs[:-1] + "b"), 3, 8), 59)
        self.assertEqual(fits((2, signs[:-1] + "b"), 3, 8), [])
        self.assertEqual(fits((0, "d" * 60), 3, 8), [()])
        self.assertEqual(watch_on((0, "d" * 60), 3, 8), 0)
        self.assertIn(((2, 0), (2, 1)), fits((0, "b" * 60), 2, 8))
        self.assertEqual(watch_on((0, "b" * 60), 3, 8), 0)

    def test_nobody_looked(self):
        for window in ((0, "?"), (5, "?" * 60), (-FORTY, "???")):
            self.assertIsNone(clash(window, 3, 8))
            self.assertEqual(len(fits(window, 3, 8)), 7807)
            for beat in (0, window[0], FORTY):
                self.assertEqual(sure(window, 1, 1, beat), "open")
                self.assertEqual(sure(window, 3, 8, beat), "open")
        self.assertEqual(watch_on((0, "?"), 1, 1), 1)

    def test_signs_that_no_set_fits(self):
        for window, most, longest, at in (((0, "bd"), 1, 1, 1), ((0, "db"), 1, 1, 1), ((0, "??b?d?"), 3, 1, 4),
                                          ((0, "bdddddddd"), 3, 8, 8), ((3, "dddddddddb"), 3, 8, 9),
                                          ((0, "bbbbd"), 3, 8, None), ((0, "bbbbd"), 3, 2, 4), ((0, "bdbb"), 1, 2, 3)):
            self.assertEqual(clash(window, most, longest), at, window)
            self.assertEqual(clash_by_counting(window, most, longest), at, window)
            if at is not None:
                self.assertEqual(fits(window, most, longest), [])
                self.assertEqual(watch_on(window, most, longest), 0)
                for beat in (0, 1, -FORTY):
                    self.assertEqual(sure(window, most, longest, beat), "clash")

    def test_signs_behind_the_clash_change_nothing(self):
        for more in ("", "b", "d", "?", "bd?" * 10):
            self.assertEqual(clash((0, "bd" + more), 1, 1), 1)
            self.assertEqual(clash((0, "b?d" + more), 2, 1), 2)

    def test_sure(self):
        self.assertEqual(sure((0, "bdb"), 1, 2, 4), "bright")
        self.assertEqual(sure((0, "bdb"), 1, 2, -1), "dark")
        self.assertEqual(sure((0, "bdd"), 1, 4, 3), "open")
        self.assertEqual(sure((0, "bdd"), 1, 4, 12), "bright")
        self.assertEqual(sure((0, "bdd"), 1, 4, 13), "dark")
        # Also a beat in the window itself, looked at or not.
        self.assertEqual([sure((0, "b?b?d"), 1, 3, beat) for beat in range(5)], ["clash"] * 5)
        self.assertEqual([sure((0, "b?d"), 1, 3, beat) for beat in range(3)], ["bright", "dark", "dark"])

    def test_none_told_apart_by_what_comes_later_alone(self):
        # Two lamps in one place, or one: lights that are alike for ever are told, but need not be told apart.
        window = (0, "bdbdbdbd")
        self.assertEqual(fits(window, 2, 2), [((2, 0),)])
        self.assertEqual(fits(window, 2, 4), [((2, 0),), ((2, 0), (4, 0)), ((2, 0), (4, 2)), ((4, 0), (4, 2))])
        self.assertEqual(watch_on(window, 2, 4), 0)
        self.assertEqual(watch_on((0, "bbbb"), 1, 1), 0)

    def test_watch_on(self):
        self.assertEqual(watch_on((1, "b"), 1, 1), 0)
        self.assertEqual(watch_on((1, "b"), 1, 2), 1)
        # Of periods 7 and 8 the one shines again at beat 8, the seventh behind the window.
        self.assertEqual(watch_on((1, "b"), 1, 8), 7)
        self.assertEqual(watch_on((1, "bdddd"), 1, 8), 3)
        # Both first at beat 7, and then at 14 or at 15.
        self.assertEqual(watch_on((0, "?"), 1, 8), 14)

    def test_a_greater_bound_lets_no_fewer_fit(self):
        for window in windows_of(105, 20, [3, 6, 12], [0, 9]):
            for most in (1, 2, 3):
                for longest in (2, 5, 7):
                    told = fits(window, most, longest)
                    self.assertLessEqual(set(told), set(fits(window, min(3, most + 1), longest)))
                    self.assertLessEqual(set(told), set(fits(window, most, longest + 1)))


class Said(unittest.TestCase):
    def test_the_bound_of_watching_on(self):
        for most in (1, 2, 3):
            for longest in range(1, 9):
                for window in [(0, "?"), (5, "?" * 60)] + windows_of(106, 6, [1, 3, 6, 11, 40], [0, 17, -FORTY]):
                    told = watch_on(window, most, longest)
                    self.assertTrue(0 <= told <= longest * 2 ** most)

    def test_so_many_beats_tell_apart_and_no_fewer(self):
        for window in windows_of(107, 12, [2, 4, 7], [0, 3, -11]):
            told = watch_on(window, 2, 4)
            begin = window[0] + len(window[1])
            farthest = -1
            for one, other in combinations(fits(window, 2, 4), 2):
                parts = parted(light_of(one), light_of(other), begin=begin)
                if parts[0] == "beat":
                    farthest = max(farthest, parts[1] - begin)
            self.assertEqual(told, farthest + 1)


class Refused(unittest.TestCase):
    def asks(self, window, most, longest, beat=0):
        return (lambda: fits(window, most, longest), lambda: clash(window, most, longest),
                lambda: sure(window, most, longest, beat), lambda: watch_on(window, most, longest))

    def assert_window(self, what, window, most=3, longest=8, beat=0):
        for ask in self.asks(window, most, longest, beat):
            with self.assertRaises(NoWindow) as caught:
                ask()
            self.assertEqual(caught.exception.what, what)

    def assert_size(self, what, window, most, longest, beat=0):
        for ask in self.asks(window, most, longest, beat):
            with self.assertRaises(NoSize) as caught:
                ask()
            self.assertEqual(caught.exception.what, what)

    def test_what_is_no_tuple_of_two(self):
        for thing in not_whole() + [0, 5, "bd", (), (0,), (0, "b", "d"), (None, "b", "d"), (True,), ("b",), [0, "b"],
                                    [None, "b"], {0: "b", 1: "d"}, {0, "b"}, range(2), b"bd"]:
            self.assert_window("signs", thing)

    def test_a_begin_that_is_no_beat(self):
        for thing in not_whole():
            for signs in ("b", "bd?", "", "x", None, 5, "b" * 61, Hostile()):
                self.assert_window("begin", (thing, signs))

    def test_signs_that_are_none(self):
        for thing in (None, True, 0, 1, b"b", b"bd?", ["b"], ("b",), {"b": 1}, {"b"}, object(), str, Hostile(), "",
                      "b" * 61, "?" * 100, "x", "B", "D", "bdx", "xbd", "b d", " b", "bd\n", "bd??!",
                      "b-d", "b\u0301"):
            for begin in (0, -5, FORTY):
                self.assert_window("signs", (begin, thing))

    def test_sixty_signs_are_not_too_many(self):
        for ask in self.asks((0, "b" * 60), 3, 8):
            ask()

    def test_most(self):
        for thing in not_whole() + [0, -1, 4, FORTY, -FORTY]:
            for longest in (1, 8, 0, 9, None, Hostile()):
                self.assert_size("most", (0, "b"), thing, longest)

    def test_longest(self):
        for thing in not_whole() + [0, -1, 9, FORTY, -FORTY]:
            for most in (1, 2, 3):
                self.assert_size("longest", (0, "b"), most, thing)

    def test_all_sizes_that_may_be(self):
        for most in (1, 2, 3):
            for longest in range(1, 9):
                for ask in self.asks((0, "b"), most, longest):
                    ask()

    def test_no_beat_behind_the_others(self):
        for thing in not_whole():
            for window in ((0, "b"), (0, "bd")):
                with self.assertRaises(NoBeat) as caught:
                    sure(window, 1, 1, thing)
                self.assertIs(caught.exception.beat, thing)
            self.assert_window("begin", (None, "b"), 3, 8, thing)
            self.assert_window("signs", (0, ""), 3, 8, thing)
            self.assert_size("most", (0, "b"), 0, 8, thing)
            self.assert_size("longest", (0, "b"), 1, 9, thing)

    def test_the_window_goes_ahead_of_the_sizes(self):
        for most, longest in ((0, 8), (3, 0), (None, None), (Hostile(), Hostile()), (True, True)):
            self.assert_window("begin", (True, "b"), most, longest)
            self.assert_window("signs", (1, "x"), most, longest)
            self.assert_window("signs", None, most, longest)


class Told(unittest.TestCase):
    def test_kinds(self):
        told = fits((0, "b?"), 2, 3)
        self.assertIs(type(told), list)
        for chosen in told:
            self.assertIs(type(chosen), tuple)
            for pair in chosen:
                self.assertIs(type(pair), tuple)
                self.assertEqual([type(part) for part in pair], [int, int])
        self.assertIs(type(clash((0, "bd"), 1, 1)), int)
        self.assertIs(type(watch_on((0, "b"), 1, 1)), int)
        self.assertIs(type(sure((0, "b"), 1, 1, 0)), str)

    def test_new_each_time(self):
        told = fits((0, "b"), 1, 2)
        told.append("more")
        self.assertEqual(fits((0, "b"), 1, 2), [((1, 0),), ((2, 0),)])
        fits((0, "bd"), 1, 1).append("more")
        self.assertEqual(fits((0, "bd"), 1, 1), [])

    def test_by_name_in_any_order(self):
        self.assertEqual(fits(longest=2, most=1, window=(0, "b")), [((1, 0),), ((2, 0),)])
        self.assertEqual(clash(longest=1, most=1, window=(0, "bd")), 1)
        self.assertEqual(sure(beat=7, longest=1, most=1, window=(0, "b")), "bright")
        self.assertEqual(watch_on(longest=2, most=1, window=(1, "b")), 1)


if __name__ == "__main__":
    unittest.main()
