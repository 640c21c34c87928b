"""plain_symmetries and plain_classes (points 3.2 and 4.3); plain_census is tested beside the census."""

import random
import unittest
from itertools import permutations

from by_hand import listed_classes, small_kinds
from classes import all_symmetries, some_kinds
from definitions import (
    ARC, BLOCK, EDGE, every_structure, mixed_relations, ready_kinds, sample_kinds, some_structure, structure_of,
)
from oneofeach.kinds import Kind
from oneofeach.least import symmetries
from oneofeach.plain import plain_classes, plain_symmetries


class PlainSymmetriesTest(unittest.TestCase):

    def test_against_all_renamings(self):
        chance = random.Random(180)
        for kind in some_kinds(chance) + list(sample_kinds().values()):
            for size in range(6):
                structure = some_structure(kind, size, chance)
                with self.subTest(relations=kind.relations, structure=structure):
                    found = plain_symmetries(kind, structure)
                    self.assertIs(type(found), list)
                    self.assertEqual(found, all_symmetries(kind, structure))

    def test_all_small_structures(self):
        for kind, size in [(Kind([EDGE], []), 4), (Kind([ARC], []), 3), (Kind([BLOCK], []), 4)]:
            for structure in every_structure(kind, size):
                self.assertEqual(plain_symmetries(kind, structure), all_symmetries(kind, structure))

    def test_seven_points(self):
        kind = Kind([EDGE], [])
        equal = structure_of(kind, 7, lambda name, place: 1)
        self.assertEqual(plain_symmetries(kind, equal), list(permutations(range(7))))
        path = structure_of(kind, 7, lambda name, place: int(place[1] - place[0] == 1))
        self.assertEqual(plain_symmetries(kind, path), [(0, 1, 2, 3, 4, 5, 6), (6, 5, 4, 3, 2, 1, 0)])
        turning = Kind([ARC], [])
        circle = structure_of(turning, 7, lambda name, place: int((place[1] - place[0]) % 7 in (1, 2, 4)))
        self.assertEqual(plain_symmetries(turning, circle), symmetries(turning, circle))
        self.assertEqual(len(plain_symmetries(turning, circle)), 21)

    def test_no_points(self):
        for kind in sample_kinds().values():
            self.assertEqual(plain_symmetries(kind, ()), [()])

    def test_more_layers_than_are_listed(self):
        kind = Kind(mixed_relations(), [(1, ("false",))])
        structure = some_structure(kind, 5, random.Random(181))
        self.assertEqual(plain_symmetries(kind, structure), all_symmetries(kind, structure))


class PlainClassesTest(unittest.TestCase):

    def test_against_the_definition(self):
        for kind, most in small_kinds():
            for size in range(most + 1):
                with self.subTest(relations=kind.relations, sentences=kind.sentences, size=size):
                    found = plain_classes(kind, size)
                    self.assertIs(type(found), list)
                    self.assertTrue(all(type(members) is list for members in found))
                    self.assertEqual(found, listed_classes(kind, size))

    def test_known_numbers(self):
        for name, size, number in [("graphs", 5, 34), ("tournaments", 5, 12), ("equivalences", 6, 11)]:
            found = plain_classes(ready_kinds()[name], size)
            self.assertEqual(len(found), number)
            self.assertEqual([members[0] for members in found], sorted(members[0] for members in found))

    def test_no_points_and_no_structures(self):
        for kind in sample_kinds().values():
            self.assertEqual(plain_classes(kind, 0), [[()]])
        self.assertEqual(plain_classes(sample_kinds()["nothing but no points"], 2), [])


if __name__ == "__main__":
    unittest.main()
