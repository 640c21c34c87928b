"""Points 14.1 (the order) and 15.1."""

import unittest

from by_hand import every_one_of_kind, listed_census, small_kinds
from definitions import EDGE, mixed_relations, ready_kinds, sample_kinds, says
from oneofeach.census import census
from oneofeach.errors import TooManyLayers
from oneofeach.kinds import Kind
from oneofeach.listing import all_structures, children, first, following
from oneofeach.structures import count_layers


class AllStructuresTest(unittest.TestCase):

    def test_against_the_definition(self):
        for kind, most in small_kinds():
            for size in range(most + 1):
                with self.subTest(relations=kind.relations, sentences=kind.sentences, size=size):
                    found = all_structures(kind, size)
                    self.assertIs(type(found), list)
                    self.assertEqual(found, every_one_of_kind(kind, size))

    def test_size_0(self):
        for kind in sample_kinds().values():
            self.assertEqual(all_structures(kind, 0), [()])

    def test_known_numbers(self):
        numbers = {"graphs": 32768, "tournaments": 32768, "equivalences": 203, "trianglefree": 5789}
        for name, number in numbers.items():
            found = all_structures(ready_kinds()[name], 6)
            self.assertEqual(len(found), number)
            self.assertEqual(found, sorted(found))

    def test_no_structures(self):
        kind = Kind([EDGE], [(3, ("false",))])
        self.assertEqual([len(all_structures(kind, size)) for size in range(8)], [1, 1, 2, 0, 0, 0, 0, 0])


class ChildrenTest(unittest.TestCase):

    def test_against_the_census(self):
        for kind, most in small_kinds():
            levels = listed_census(kind, most)
            for before, after in zip(levels, levels[1:]):
                for structure in before:
                    with self.subTest(relations=kind.relations, structure=structure):
                        found = children(kind, structure)
                        self.assertIs(type(found), list)
                        self.assertEqual(found, [each for each in after if each[:-1] == structure])

    def test_some_have_none(self):
        kind = sample_kinds()["bare, at most two points"]
        self.assertEqual(children(kind, ()), [((),)])
        self.assertEqual(children(kind, ((), ())), [])
        kind = sample_kinds()["nothing but no points"]
        self.assertEqual(children(kind, ()), [])

    def test_too_many_layers(self):
        kind = Kind(mixed_relations(), [])
        structure = census(kind, 2)[2][0]
        with self.assertRaises(TooManyLayers) as held:
            children(kind, structure)
        self.assertEqual(held.exception.count, count_layers(kind, 2))
        self.assertGreater(len(children(kind, structure[:1])), 0)


class FirstTest(unittest.TestCase):

    def test_against_the_census(self):
        for kind, most in small_kinds():
            for size, level in enumerate(listed_census(kind, most)):
                with self.subTest(relations=kind.relations, sentences=kind.sentences, size=size):
                    self.assertEqual(first(kind, size), level[0] if level else None)

    def test_size_0(self):
        for kind in sample_kinds().values():
            self.assertEqual(first(kind, 0), ())

    def test_seven_points(self):
        for name in ["graphs", "tournaments", "orders", "equivalences", "trianglefree"]:
            kind = ready_kinds()[name]
            found = first(kind, 7)
            self.assertEqual(len(found), 7)
            if name != "tournaments":
                self.assertTrue(all(number == 0 for layer in found for row in layer for number in row))
        self.assertEqual(first(ready_kinds()["tournaments"], 4), census(ready_kinds()["tournaments"], 4)[4][0])

    def test_a_way_that_goes_on_late(self):
        # Only structures whose points all have the greatest mark have more than one point.
        kind = Kind([("mark", 1, 3, False)], [(2, says("mark", (0,), 2))])
        self.assertEqual(first(kind, 1), (((0,),),))
        self.assertEqual(first(kind, 4), (((2,),),) * 4)
        self.assertIsNone(following(kind, (((2,),),) * 4))

    def test_none(self):
        kind = Kind([EDGE], [(3, ("false",))])
        self.assertEqual([first(kind, size) is None for size in range(8)], [False] * 3 + [True] * 5)

    def test_too_many_layers_with_other_ways_on(self):
        kind = Kind([("edge", 2, 8, True)], [(6, ("false",))])
        for size in [6, 7]:
            with self.assertRaises(TooManyLayers) as held:
                first(kind, size)
            self.assertEqual(held.exception.count, 8 ** 5)


class FollowingTest(unittest.TestCase):

    def test_against_the_census(self):
        for kind, most in small_kinds():
            for level in listed_census(kind, most):
                for structure, other in zip(level, level[1:] + [None]):
                    with self.subTest(relations=kind.relations, structure=structure):
                        self.assertEqual(following(kind, structure), other)

    def test_going_through_a_kind(self):
        for name, size in [("graphs", 5), ("tournaments", 6), ("orders", 4), ("equivalences", 7), ("trianglefree", 6)]:
            kind = ready_kinds()[name]
            found = [first(kind, size)]
            while found[-1] is not None:
                found.append(following(kind, found[-1]))
            self.assertEqual(found[:-1], census(kind, size)[-1])

    def test_no_points(self):
        for kind in sample_kinds().values():
            self.assertIsNone(following(kind, ()))


if __name__ == "__main__":
    unittest.main()
