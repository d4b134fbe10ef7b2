"""Stage 6: check_longest (6.5)."""

import unittest
from copy import deepcopy
from random import Random

from farlamps.errors import NoPaper, NoSize, TooMany
from farlamps.lights import Light
from farlamps.stretches import check_longest, longest_bright, tree
from tests.test_tree import agree_by_counting, left_by_counting
from tests.things import EqualToAll, Hostile, doubling, fields_of, light_of, mixed_lights, not_whole

FORTY = 10 ** 39 + 7

# In an even and two odd beats of 4 there is no stretch of more than three beats, and one such.
PAIRS = [(4, 1), (4, 2), (4, 3)]


def first_amiss(pairs, long, paper, chosen=()):
    """The at of the first node that is amiss, by what 6.4 and 6.5 say alone; None where none is."""
    at = tuple(number for number, offset in chosen)
    left = left_by_counting(pairs, chosen)
    others = [number for number in range(len(pairs)) if number not in at]
    if left is None or left > long or type(paper) is not list or len(paper) != len(others):
        return at
    below = []
    for number, thing in zip(others, paper):
        if type(thing) is not tuple or len(thing) != 2 or type(thing[0]) is not str or thing[0] not in ("on", "apart"):
            return at
        apart = [other for other, offset in chosen
                 if not agree_by_counting(pairs[number], left, pairs[other], offset)]
        if thing[0] == "on" and apart:
            return at
        if thing[0] == "apart" and (type(thing[1]) is not int or thing[1] not in apart):
            return at
        if thing[0] == "on":
            below.append((number, thing[1]))
    for number, node in below:
        found = first_amiss(pairs, long, node, tuple(chosen) + ((number, left),))
        if found is not None:
            return found
    return None


def put_into(paper, way, place, thing):
    """The paper with a thing at a place of the node to which a way of places leads; way () is the paper itself."""
    paper = deepcopy(paper)
    node = paper
    for step in way:
        node = node[step][1]
    node[place] = thing
    return paper


def ways_of(paper, way=()):
    """All ways of places that lead to a node."""
    ways = [way]
    for place, (word, below) in enumerate(paper):
        if word == "on":
            ways += ways_of(below, way + (place,))
    return ways


class Good(unittest.TestCase):
    def test_told_trees(self):
        for pairs in mixed_lights(81, 100, [0, 1, 2, 3, 4, 5, 6], [2, 3, 4, 5, 6, 8, 12, FORTY]):
            light = light_of(pairs)
            told = longest_bright(light)
            if told[0] == "stretch":
                for long in (told[1], told[1] + 1, FORTY):
                    self.assertIsNone(check_longest(light, long, tree(light, long)))

    def test_whichever_stands_behind_an_apart(self):
        pairs = [(4, 0), (4, 0), (4, 0)]
        light = light_of(pairs)
        self.assertEqual(tree(light, 1), [("on", [("apart", number)] * 2) for number in range(3)])
        # Lamps 0 and 1 in a row, so that 2 and 3 do not agree with the one nor with the other.
        pairs = [(4, 0), (4, 1), (4, 0), (4, 1)]
        told = tree(light_of(pairs), 2)
        self.assertEqual(told[0][1][0][1], [("apart", 0), ("apart", 0)])
        for first in (0, 1):
            for second in (0, 1):
                paper = deepcopy(told)
                paper[0][1][0][1][:] = [("apart", first), ("apart", second)]
                self.assertIsNone(check_longest(light_of(pairs), 2, paper))

    def test_a_light_without_lamps(self):
        for long in (0, 1, FORTY):
            self.assertIsNone(check_longest(Light([]), long, []))

    def test_the_greatest(self):
        light = light_of([(10 ** 20 + by, 3 * by) for by in (39, 129, 151, 193, 207, 301)])
        self.assertIsNone(check_longest(light, 6, tree(light, 6)))
        light = light_of(doubling(6, FORTY))
        self.assertIsNone(check_longest(light, 63, tree(light, 63)))
        far = 10 ** 3000
        light = light_of([(far, 1), (far + 1, 2), (far, 5)])
        self.assertIsNone(check_longest(light, far, tree(light, far)))

    def test_shared_nodes_and_other_words_that_are_equal(self):
        light = light_of([(4, 0), (4, 0)])
        node = [("".join(["ap", "art"]), 0)]
        self.assertIsNone(check_longest(light, 1, [("".join(["o", "n"]), node), ("on", [("apart", 1)])]))
        node = [("on", [])]
        self.assertIsNone(check_longest(light_of([(4, 0), (5, 0)]), 2, [("on", node), ("on", node)]))

    def test_by_name_in_any_order(self):
        self.assertIsNone(check_longest(paper=[("on", [])], long=1, light=light_of([(3, 1)])))


class Refused(unittest.TestCase):
    GOOD = tree(light_of(PAIRS), 3)

    def assert_at(self, at, paper, long=3, pairs=None):
        with self.assertRaises(NoPaper) as caught:
            check_longest(light_of(PAIRS if pairs is None else pairs), long, paper)
        self.assertEqual(caught.exception.at, at)
        self.assertIs(type(caught.exception.at), tuple)
        self.assertEqual([number for number in caught.exception.at if type(number) is not int], [])

    def test_the_good_one_is_not(self):
        self.assertIsNone(check_longest(light_of(PAIRS), 3, self.GOOD))
        self.assertEqual(self.GOOD, [
            ("on", [("on", [("on", [])]), ("apart", 0)]),
            ("on", [("apart", 1), ("on", [("apart", 1)])]),
            ("on", [("apart", 2), ("apart", 2)]),
        ])

    def test_what_is_no_list_of_as_many_things(self):
        for thing in (None, True, 3, "", "abc", b"abc", {}, {0: 1, 1: 2, 2: 3}, set(), range(3), tuple(self.GOOD), (),
                      iter(self.GOOD), object(), list, Hostile(), [], self.GOOD[:2], self.GOOD + self.GOOD[:1]):
            self.assert_at((), thing)
        for thing in (None, 0, (), "", [[]], [("on", [])], [("apart", 0)]):
            self.assert_at((), thing, 0, [])

    def test_the_same_in_a_node_below(self):
        for thing in (None, True, 3, "", "ab", b"ab", {}, {0: 1, 1: 2}, set(), range(2), (), object(), Hostile(), [],
                      [("apart", 0)], [("on", [("on", [])]), ("apart", 0), ("apart", 0)], tuple(self.GOOD[0][1])):
            self.assert_at((0,), put_into(self.GOOD, (), 0, ("on", thing)))
        self.assert_at((1,), put_into(self.GOOD, (), 1, ("on", tuple(self.GOOD[1][1]))))
        for thing in (None, (), "", [[]], [("on", [])], [("apart", 0)], Hostile()):
            self.assert_at((0, 1, 2), put_into(self.GOOD, (0, 0), 0, ("on", thing)))
        self.assert_at((1, 2), put_into(self.GOOD, (1,), 1, ("on", [])))

    def test_a_thing_that_is_none_such(self):
        for thing in not_whole() + [0, 1, 2, FORTY, "on", ("on",), ("apart",), ("on", [], []), ("apart", 0, 0),
                                    ["on", []], ["apart", 0], ("On", []), ("on ", []), ("apar", 0), ("apart", "0"),
                                    ("", []), (0, []), (None, []), (b"on", []), (True, 0), ([], 0), ({}, 0),
                                    ([], "on"), (Hostile(), 0), (EqualToAll(), 0), {"on": []}, ("on", "apart", 0)]:
            for way, at in (((), ()), ((0,), (0,)), ((1,), (1,)), ((0, 0), (0, 1))):
                node = self.GOOD
                for step in way:
                    node = node[step][1]
                for place in range(len(node)):
                    self.assert_at(at, put_into(self.GOOD, way, place, thing))

    def test_on_where_the_lamp_does_not_agree(self):
        for below in ([], [("on", [])], [("apart", 0)], None):
            self.assert_at((0,), put_into(self.GOOD, (0,), 1, ("on", below)))
            self.assert_at((1,), put_into(self.GOOD, (1,), 0, ("on", below)))
            self.assert_at((2,), put_into(self.GOOD, (2,), 1, ("on", below)))
            self.assert_at((1, 2), put_into(self.GOOD, (1, 1), 0, ("on", below)))

    def test_apart_where_the_lamp_agrees(self):
        for other in (0, 1, 2, None):
            self.assert_at((), put_into(self.GOOD, (), 0, ("apart", other)))
            self.assert_at((), put_into(self.GOOD, (), 2, ("apart", other)))
            self.assert_at((0,), put_into(self.GOOD, (0,), 0, ("apart", other)))
            self.assert_at((0, 1), put_into(self.GOOD, (0, 0), 0, ("apart", other)))

    def test_apart_from_none_that_is_chosen_and_does_not_agree(self):
        for other in not_whole() + [-1, -2, -3, 0, 2, 3, FORTY]:
            self.assert_at((1,), put_into(self.GOOD, (1,), 0, ("apart", other)))

    def test_apart_from_one_that_is_chosen_but_agrees(self):
        pairs = [(2, 0), (3, 0), (2, 0)]
        told = tree(light_of(pairs), 3)
        self.assertEqual(told[0][1][0], ("on", [("apart", 0)]))
        self.assertIsNone(check_longest(light_of(pairs), 3, told))
        self.assert_at((0, 1), put_into(told, (0, 0), 0, ("apart", 1)), 3, pairs)
        self.assert_at((0, 1), put_into(told, (0, 0), 0, ("apart", 2)), 3, pairs)

    def test_truths_are_no_numbers(self):
        self.assert_at((1,), put_into(self.GOOD, (1,), 0, ("apart", True)))
        self.assert_at((0,), put_into(self.GOOD, (0,), 1, ("apart", False)))
        self.assertIsNone(check_longest(light_of(PAIRS), 3, put_into(self.GOOD, (1,), 0, ("apart", 1))))

    def test_more_beats_than_long(self):
        self.assert_at((0,), [("on", [])], 0, [(2, 0)])
        for pairs in (PAIRS, doubling(3), doubling(5, 2)):
            long = 2 ** len(pairs) - 1 if pairs != PAIRS else 3
            told = tree(light_of(pairs), long)
            for less in range(1, long):
                with self.assertRaises(NoPaper) as caught:
                    check_longest(light_of(pairs), less, told)
                self.assertEqual(caught.exception.at, first_amiss(pairs, less, told))

    def test_no_left_offset(self):
        for pairs, at in (([(1, 0)], (0,)), ([(2, 0), (2, 1)], (0, 1)), ([(4, 0), (1, 0)], (0, 1)),
                          ([(3, 0), (3, 2), (3, 1)], (0, 2, 1))):
            for long in (7, 8, 100, FORTY):
                paper = [("on", [("on", [("on", [])] * (len(pairs) - 2))] * (len(pairs) - 1))] * len(pairs)
                with self.assertRaises(NoPaper) as caught:
                    check_longest(light_of(pairs), long, paper)
                self.assertEqual(caught.exception.at, first_amiss(pairs, long, paper))
        paper = [("on", [("on", [])]), ("on", [("on", [])])]
        self.assert_at((0, 1), paper, 5, [(2, 0), (2, 1)])
        self.assert_at((0,), [("on", [])], 5, [(1, 0)])
        self.assert_at((0,), [("on", None)], 5, [(1, 0)])
        self.assert_at((0, 1), [("on", [("on", [])]), ("on", [("on", [])])], 2, [(5, 0), (1, 0)])

    def test_a_node_goes_ahead_of_all_below_it_and_these_by_numbers(self):
        both = put_into(put_into(self.GOOD, (), 0, ("on", None)), (), 1, ("on", None))
        self.assert_at((0,), both)
        self.assert_at((), put_into(both, (), 2, None))
        self.assert_at((), put_into(both, (), 2, ("apart", 0)))
        paper = put_into(put_into(self.GOOD, (0, 0), 0, None), (1,), 0, None)
        self.assert_at((0, 1), paper)
        # Deeper, but by lower numbers.
        paper = put_into(put_into(self.GOOD, (0, 0), 0, ("on", 7)), (1,), 0, None)
        self.assert_at((0, 1, 2), paper)
        paper = put_into(put_into(self.GOOD, (0, 0), 0, None), (0,), 1, None)
        self.assert_at((0,), paper)

    def test_every_change_of_one_thing(self):
        chance = Random(82)
        for pairs in mixed_lights(83, 25, [2, 3, 4], [2, 3, 4, 6, 8]):
            told = longest_bright(light_of(pairs))
            if told[0] == "ever":
                continue
            good = tree(light_of(pairs), told[1])
            self.assertIsNone(first_amiss(pairs, told[1], good))
            for way in ways_of(good):
                node = good
                for step in way:
                    node = node[step][1]
                for place in range(len(node)):
                    thing = chance.choice([("apart", 0), ("apart", 1), ("apart", 2), ("on", []), ("on", [("on", [])]),
                                           ("on", good), ("apart", True), None, ("on", 0)])
                    paper = put_into(good, way, place, thing)
                    at = first_amiss(pairs, told[1], paper)
                    if at is None:
                        self.assertIsNone(check_longest(light_of(pairs), told[1], paper))
                    else:
                        self.assert_at(at, paper, told[1], pairs)

    def test_trees_of_other_lights(self):
        for pairs in mixed_lights(84, 40, [2, 3], [2, 3, 4, 6, 8]):
            for others in mixed_lights(85, 20, [2, 3], [2, 3, 4, 6, 8]):
                paper = tree(light_of(others), 7)
                if paper is None:
                    continue
                for long in (1, 2, 3, 7):
                    at = first_amiss(pairs, long, paper)
                    if at is None:
                        self.assertIsNone(check_longest(light_of(pairs), long, paper))
                    else:
                        self.assert_at(at, paper, long, pairs)

    def test_nothing_is_changed(self):
        light = light_of(PAIRS)
        paper = deepcopy(self.GOOD)
        check_longest(light, 3, paper)
        self.assertEqual(paper, self.GOOD)
        self.assertEqual(fields_of(light), PAIRS)


class RefusedAhead(unittest.TestCase):
    def test_more_than_six_lamps_goes_ahead_of_all_else(self):
        for many in (7, 10):
            for long in [0, 1023, -1] + not_whole():
                for paper in ([], None, Hostile()):
                    with self.assertRaises(TooMany) as caught:
                        check_longest(light_of(doubling(many)), long, paper)
                    self.assertEqual(caught.exception.many, 6)

    def test_then_no_whole_number_from_0_on(self):
        for light in (Light([]), light_of([(1, 0)]), light_of(PAIRS)):
            for long in [-1, -FORTY] + not_whole():
                for paper in ([], None, Hostile()):
                    with self.assertRaises(NoSize) as caught:
                        check_longest(light, long, paper)
                    self.assertEqual(caught.exception.what, "long")


if __name__ == "__main__":
    unittest.main()
