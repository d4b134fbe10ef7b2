"""Stage 3: may_go (3.2), check_go (3.3), and what 3.5 says of lamps that go together."""

import unittest
from copy import deepcopy
from itertools import combinations, permutations, product

from farlamps.errors import NoNumber, NoPaper
from farlamps.idle import check_go, idle, may_go
from farlamps.lights import Light
from tests.things import (
    Hostile, doubling, fields_of, light_of, mixed_lights, not_whole, numbers_at, round_of, small_lights,
)

FORTY = 10 ** 39 + 7


def left_out(pairs, numbers):
    return [pair for number, pair in enumerate(pairs) if number not in numbers]


def choices(many):
    """All rising lists of numbers below many."""
    return [list(numbers) for few in range(many + 1) for numbers in combinations(range(many), few)]


def counted(pairs, numbers):
    """What may_go is to tell, by plain counting over a whole round."""
    for beat in range(round_of(pairs)):
        shining = numbers_at(pairs, beat)
        if shining and all(number in numbers for number in shining):
            return ("dark", beat)
    papers = []
    for going in sorted(numbers):
        period, first = pairs[going]
        rows = [numbers_at(pairs, first + place * period) for place in range(2 ** (len(pairs) - len(numbers)))]
        papers.append([min(number for number in row if number not in numbers) for row in rows])
    return ("go", papers)


class Counted(unittest.TestCase):
    def assert_told(self, pairs, numbers):
        told = may_go(light_of(pairs), numbers)
        self.assertEqual(told, counted(pairs, numbers), (pairs, numbers))
        if told[0] == "go":
            self.assertIsNone(check_go(light_of(pairs), numbers, told[1]))

    def test_all_choices_of_all_small_lights(self):
        for pairs in small_lights(4, 2) + small_lights(3, 3):
            for numbers in choices(len(pairs)):
                self.assert_told(pairs, numbers)

    def test_all_choices_of_mixed_lights(self):
        for pairs in mixed_lights(11, 40, [4, 5, 6], [2, 3, 4, 6, 8, 12]):
            for numbers in choices(len(pairs)):
                self.assert_told(pairs, numbers)

    def test_mixed_lights_of_many_lamps(self):
        for pairs in mixed_lights(12, 60, [8, 9, 10], [2, 3, 4, 6, 8]):
            for numbers in ([0], [7, 1], [5, 6, 7], [2, 0, 1, 4, 3, 5]):
                self.assert_told(pairs, numbers)


class Edges(unittest.TestCase):
    def test_no_numbers(self):
        for pairs in ([], [(1, 0)], [(5, 2), (5, 2)]):
            for numbers in ([], ()):
                self.assertEqual(may_go(light_of(pairs), numbers), ("go", []))
                self.assertIsNone(check_go(light_of(pairs), numbers, []))

    def test_all_lamps_go(self):
        self.assertEqual(may_go(light_of([(9, 4)]), [0]), ("dark", 4))
        self.assertEqual(may_go(light_of([(9, 4), (9, 4), (7, 6)]), [2, 1, 0]), ("dark", 4))

    def test_any_order_and_tuples_tell_the_same(self):
        for pairs in ([(2, 0), (3, 1), (6, 2), (4, 0), (12, 1)], [(1, 0), (5, 2), (7, 3), (11, 4)]):
            light = light_of(pairs)
            for numbers in choices(len(pairs)):
                wanted = may_go(light, numbers)
                for order in permutations(numbers):
                    self.assertEqual(may_go(light, list(order)), wanted)
                    self.assertEqual(may_go(light, order), wanted)
                    if wanted[0] == "go":
                        self.assertIsNone(check_go(light, list(order), wanted[1]))
                        self.assertIsNone(check_go(light, order, wanted[1]))

    def test_papers_rise_by_numbers_with_the_least_kept_lamp(self):
        light = light_of([(4, 2), (2, 0), (2, 1), (4, 3), (1, 0)])
        self.assertEqual(may_go(light, [3, 0]), ("go", [[1] * 8, [2] * 8]))
        self.assertEqual(may_go(light, (0, 1, 2, 3)), ("go", [[4] * 2] * 4))
        self.assertEqual(may_go(light, (4, 3, 0)), ("go", [[1] * 4, [2] * 4, [1, 2, 1, 2]]))

    def test_the_first_beat_of_several_that_are_lost(self):
        light = light_of([(7, 6), (7, 2), (7, 5), (14, 2)])
        self.assertEqual(may_go(light, [0, 1, 2]), ("dark", 5))
        self.assertEqual(may_go(light, [1]), ("dark", 9))
        self.assertEqual(may_go(light, [1, 0, 3]), ("dark", 2))

    def test_idle_lamps_that_are_needed_when_others_have_gone(self):
        equal = light_of([(3, 1), (3, 1)])
        self.assertEqual(idle(equal), [0, 1])
        self.assertEqual(may_go(equal, [0]), ("go", [[1, 1]]))
        self.assertEqual(may_go(equal, [1]), ("go", [[0, 0]]))
        self.assertEqual(may_go(equal, [0, 1]), ("dark", 1))
        light = light_of([(2, 0), (2, 1), (3, 1), (1, 0)])
        self.assertEqual(idle(light), [0, 1, 2, 3])
        self.assertEqual(may_go(light, [3, 1]), ("dark", 3))

    def test_lost_only_at_the_last_look(self):
        for many in range(1, 10):
            light = light_of(doubling(many, 2 ** many - 1) + [(1, 0)])
            self.assertEqual(may_go(light, [many]), ("dark", 2 ** many - 1))
            # The same with own beats that lie far from each other.
            period, last = FORTY * 2 + 1, 2 ** many - 1
            far = light_of([(2 ** (place + 1), 5 + period * (2 ** place + last)) for place in range(many)]
                           + [(period, 5)])
            self.assertEqual(may_go(far, [many]), ("dark", 5 + period * last))

    def test_great_periods(self):
        light = light_of([(FORTY, 5), (2 * FORTY, 5), (2 * FORTY, 5 + FORTY), (FORTY + 1, 5)])
        self.assertEqual(may_go(light, [0]), ("go", [[1, 2] * 4]))
        self.assertEqual(may_go(light, [2, 1]), ("go", [[0] * 4, [0] * 4]))
        self.assertEqual(may_go(light, [1, 0]), ("dark", 5 + 2 * FORTY))
        self.assertEqual(may_go(light, [0, 1, 3]), ("dark", 5))
        self.assertEqual(may_go(light, [3]), ("dark", 6 + FORTY))

    def test_ten_lamps(self):
        light = light_of([(9, 5 + FORTY * place) for place in range(9)] + [(FORTY, 3)])
        told = may_go(light, [9])
        self.assertEqual(told[0], "go")
        self.assertEqual(len(told[1][0]), 512)
        self.assertIsNone(check_go(light, [9], told[1]))
        self.assertEqual(may_go(light_of([(1, 0)] * 10), list(range(9))), ("go", [[9, 9]] * 9))


class Said(unittest.TestCase):
    def test_together_just_where_the_ones_may_and_then_the_others(self):
        for pairs in mixed_lights(13, 40, [3, 4, 5], [1, 2, 3, 4, 6]) + [[(2, 0), (2, 1), (1, 0), (4, 3)]]:
            light = light_of(pairs)
            for ones, others in product(choices(len(pairs)), repeat=2):
                if set(ones) & set(others):
                    continue
                together = may_go(light, ones + others)[0] == "go"
                kept = [number for number in range(len(pairs)) if number not in ones]
                behind = may_go(light_of(left_out(pairs, ones)), [kept.index(number) for number in others])[0] == "go"
                self.assertEqual(together, may_go(light, ones)[0] == "go" and behind)

    def test_each_of_those_that_may_go_together_is_idle(self):
        for pairs in mixed_lights(14, 80, [3, 4, 5, 6], [1, 2, 3, 4, 6]):
            light = light_of(pairs)
            for numbers in choices(len(pairs)):
                if may_go(light, numbers)[0] == "go":
                    self.assertLessEqual(set(numbers), set(idle(light)))


class NoNumbers(unittest.TestCase):
    LIGHT = light_of([(2, 0), (2, 1), (1, 0)])

    def assert_refused(self, light, numbers, wanted):
        for ask in (lambda: may_go(light, numbers), lambda: check_go(light, numbers, []),
                    lambda: check_go(light, numbers, None), lambda: check_go(light, numbers, Hostile())):
            with self.assertRaises(NoNumber) as caught:
                ask()
            self.assertIs(caught.exception.number, wanted)

    def test_what_is_no_list_or_tuple(self):
        for thing in (None, True, 0, 1, 1.5, "", "01", b"\x00", {}, {0: 1}, set(), {0}, frozenset(), range(2),
                      iter([0]), object(), list, Light([]), Hostile()):
            self.assert_refused(self.LIGHT, thing, thing)

    def test_what_is_no_whole_number(self):
        for thing in not_whole():
            self.assert_refused(self.LIGHT, [thing], thing)
            self.assert_refused(self.LIGHT, (thing,), thing)
            self.assert_refused(self.LIGHT, [2, thing], thing)
            self.assert_refused(self.LIGHT, [2, 1, 0, thing], thing)
            self.assert_refused(self.LIGHT, [thing, 7], thing)

    def test_a_number_of_no_lamp(self):
        for thing in (-1, -3, 3, 4, 10, FORTY, -FORTY):
            self.assert_refused(self.LIGHT, [thing], thing)
            self.assert_refused(self.LIGHT, (2, thing, 2), thing)
            self.assert_refused(self.LIGHT, [thing, None], thing)
        self.assert_refused(Light([]), [0], 0)

    def test_a_number_twice(self):
        self.assert_refused(self.LIGHT, [1, 1], 1)
        self.assert_refused(self.LIGHT, [2, 0, 2], 2)
        self.assert_refused(self.LIGHT, (0, 1, 2, 1, 0), 1)
        self.assert_refused(self.LIGHT, [0, 1, 1, 9], 1)
        self.assert_refused(self.LIGHT, [0, 1, 9, 1], 9)

    def test_refused_also_where_the_lamps_may_not_go(self):
        self.assert_refused(light_of([(2, 0)]), [0, 0], 0)
        self.assert_refused(light_of([(2, 0)]), [0, True], True)


class Papers(unittest.TestCase):
    # Numbers 1 and 3 may go; the paper of 1 is of the beats 1, 3, 5, 7, the one of 3 of 3, 9, 15, 21.
    PAIRS = [(4, 1), (2, 1), (4, 3), (6, 3)]
    GOOD = [[0, 2, 0, 2], [2, 0, 2, 0]]

    def assert_at(self, at, papers, numbers=(1, 3), pairs=None):
        with self.assertRaises(NoPaper) as caught:
            check_go(light_of(pairs or self.PAIRS), numbers, papers)
        self.assertEqual(caught.exception.at, at)
        self.assertIs(type(caught.exception.at), int)

    def test_the_told_ones_are_good(self):
        self.assertEqual(may_go(light_of(self.PAIRS), [3, 1]), ("go", self.GOOD))
        self.assertIsNone(check_go(light_of(self.PAIRS), [3, 1], self.GOOD))

    def test_any_kept_lamp_that_shines_may_be_named(self):
        pairs = [(2, 1), (1, 0), (2, 0), (1, 0)]
        for paper in product([1, 2], [1], [1, 2], [1]):
            self.assertIsNone(check_go(light_of(pairs), [3, 0], [[1] * 4, list(paper)]))
        self.assert_at(1, [[1] * 4, [1, 2, 1, 1]], [3, 0], pairs)

    def test_what_is_no_list_of_as_many_things(self):
        for thing in (None, True, 0, "", "ab", b"ab", {}, {0: [], 1: []}, set(), range(2), tuple(self.GOOD), (),
                      [], self.GOOD[:1], self.GOOD + [[]], self.GOOD + self.GOOD[:1], iter(self.GOOD), Hostile()):
            self.assert_at(-1, thing)
        self.assert_at(-1, [[]], [])
        self.assert_at(-1, [None, None, None])

    def test_a_thing_that_is_no_list_of_as_many_numbers(self):
        for thing in (None, True, 4, "0202", b"\x00\x02\x00\x02", (0, 2, 0, 2), {0: 0, 1: 2, 2: 0, 3: 2}, {0, 2},
                      [], [0], [0, 2, 0], [0, 2, 0, 2, 0], [0, 2] * 4, range(4), Hostile()):
            self.assert_at(0, [thing, self.GOOD[1]])
            self.assert_at(0, [thing, thing])
        for thing in (None, (2, 0, 2, 0), [2, 0, 2], [2, 0, 2, 0, 2], Hostile()):
            self.assert_at(1, [self.GOOD[0], thing])

    def test_a_thing_that_is_no_number(self):
        for thing in not_whole():
            for place in range(4):
                papers = deepcopy(self.GOOD)
                papers[0][place] = thing
                self.assert_at(0, papers)
                papers = deepcopy(self.GOOD)
                papers[1][place] = thing
                self.assert_at(1, papers)

    def test_truths_are_no_numbers(self):
        pairs = [(2, 0), (1, 0), (1, 0)]
        self.assertIsNone(check_go(light_of(pairs), [2, 0], [[1, 1], [1, 1]]))
        self.assert_at(0, [[True, 1], [1, 1]], [2, 0], pairs)
        self.assert_at(1, [[1, 1], [1, True]], [2, 0], pairs)
        self.assert_at(0, [[False, False]], [1], [(1, 0), (3, 2)])

    def test_a_number_of_no_kept_lamp_that_shines_then(self):
        for number in (-4, -2, -1, 1, 2, 3, 4, 9, FORTY, -FORTY):
            self.assert_at(0, [[number, 2, 0, 2], self.GOOD[1]])
            if number != 2:
                self.assert_at(1, [self.GOOD[0], [2, 0, number, 0]])
        self.assert_at(1, [self.GOOD[0], [2, 0, 2, 2]])
        self.assert_at(0, [[0, 2, 0, 0], [2, 0, 2, 2]])

    def test_a_going_lamp_shines_but_is_not_kept(self):
        self.assert_at(0, [[1, 2, 0, 2], self.GOOD[1]])
        self.assert_at(0, [[0, 3, 0, 2], self.GOOD[1]])
        self.assert_at(0, [[0, 0]], [0], [(3, 1), (3, 1)])

    def test_the_papers_are_those_of_the_rising_numbers(self):
        self.assert_at(0, self.GOOD[::-1], [3, 1])
        self.assert_at(0, self.GOOD[::-1], [1, 3])

    def test_every_short_paper(self):
        pairs = [(2, 0), (3, 1), (4, 2)]
        for paper in product(range(-1, 4), repeat=4):
            good = all(number in (0, 1) and number in numbers_at(pairs, 2 + 4 * place)
                       for place, number in enumerate(paper))
            if good:
                self.assertIsNone(check_go(light_of(pairs), [2], [list(paper)]))
            else:
                self.assert_at(0, [list(paper)], [2], pairs)

    def test_lamps_that_may_not_go_have_no_papers(self):
        for many in (1, 4, 9):
            pairs = doubling(many, 2 ** many - 1) + [(1, 0)]
            paper = [numbers_at(pairs, beat)[0] for beat in range(2 ** many)]
            self.assert_at(0, [paper], [many], pairs)
            for number in range(many):
                self.assert_at(0, [paper[:-1] + [number]], [many], pairs)
            self.assert_at(0, [paper[:-1]], [many], pairs)
        self.assert_at(0, [[]], [0], [(3, 1)])
        self.assert_at(0, [[0]], [0], [(3, 1)])


class Told(unittest.TestCase):
    def test_kinds(self):
        light = light_of([(2, 0), (4, 2)])
        for told, kind in ((may_go(light, [1]), list), (may_go(light, [0]), int), (may_go(light, []), list)):
            self.assertIs(type(told), tuple)
            self.assertIs(type(told[1]), kind)
        self.assertIs(type(may_go(light, [1])[1][0]), list)

    def test_new_each_time(self):
        light = light_of([(2, 0), (4, 2), (4, 2)])
        wanted = ("go", [[0, 0], [0, 0]])
        told = may_go(light, [1, 2])
        self.assertEqual(told, wanted)
        self.assertIsNot(told[1][0], told[1][1])
        told[1][0][0] = 9
        told[1].append([])
        self.assertEqual(may_go(light, [1, 2]), wanted)
        may_go(light, [])[1].append("more")
        self.assertEqual(may_go(light, []), ("go", []))

    def test_nothing_that_is_handed_in_is_changed_or_kept(self):
        pairs = [(2, 0), (4, 2), (4, 2)]
        light = light_of(pairs)
        numbers = [2, 1]
        told = may_go(light, numbers)
        self.assertEqual(numbers, [2, 1])
        numbers.append(0)
        self.assertEqual(told, ("go", [[0, 0], [0, 0]]))
        papers = [[0, 0], [0, 0]]
        check_go(light, (2, 1), papers)
        self.assertEqual(papers, [[0, 0], [0, 0]])
        self.assertEqual(fields_of(light), pairs)

    def test_by_name_in_any_order(self):
        light = light_of([(2, 0), (4, 2)])
        self.assertEqual(may_go(numbers=[1], light=light), ("go", [[0, 0]]))
        self.assertIsNone(check_go(papers=[[0, 0]], numbers=[1], light=light))


if __name__ == "__main__":
    unittest.main()
