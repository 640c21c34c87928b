"""Points 15.2 and 15.3."""

import random
import unittest
from itertools import permutations
from math import factorial

from by_hand import every_one_of_kind, keeps, listed_classes, small_kinds
from classes import all_symmetries, some_kinds
from definitions import (
    ARC, BLOCK, EDGE, every_structure, mixed_relations, ready_kinds, sample_kinds, some_structure, structure_of,
)
from oneofeach.kinds import Kind
from oneofeach.listing import all_structures
from oneofeach.orbits import class_count, kept_count, point_orbits
from oneofeach.renamings import is_symmetry


def orbits_by_symmetries(kind, structure):
    """Point 15.2."""
    found = all_symmetries(kind, structure)
    orbits = []
    for point in range(len(structure)):
        orbit = sorted(set(names[point] for names in found))
        if orbit not in orbits:
            orbits.append(orbit)
    return orbits


class PointOrbitsTest(unittest.TestCase):

    def check(self, kind, structure):
        """Compare with all renamings."""
        found = point_orbits(kind, structure)
        self.assertIs(type(found), list)
        self.assertTrue(all(type(orbit) is list for orbit in found))
        self.assertEqual(found, orbits_by_symmetries(kind, structure))

    def test_structures_of_many_kinds(self):
        chance = random.Random(170)
        for kind in some_kinds(chance) + list(sample_kinds().values()):
            for size in range(6):
                structure = some_structure(kind, size, chance)
                with self.subTest(relations=kind.relations, structure=structure):
                    self.check(kind, structure)

    def test_all_small_structures(self):
        for kind, size in [(Kind([EDGE], []), 4), (Kind([ARC], []), 3), (Kind([BLOCK], []), 4)]:
            for structure in every_structure(kind, size):
                self.check(kind, structure)

    def test_turned_structures(self):
        kind = Kind([ARC], [])
        for steps in [1, 2, 3]:
            structure = structure_of(kind, 6, lambda name, place: int((place[1] - place[0]) % 6 == steps))
            self.check(kind, structure)
            self.assertEqual(point_orbits(kind, structure), [[0, 1, 2, 3, 4, 5]])

    def test_arcs_that_a_renaming_keeps(self):
        chance = random.Random(173)
        kind = Kind([ARC], [])
        for _ in range(40):
            size = chance.choice([4, 5, 5, 6])
            names = chance.sample(range(size), size)
            arcs = {tuple(chance.sample(range(size), 2)) for _ in range(chance.randrange(1, 4))}
            for _ in range(size * size):
                arcs |= {(names[start], names[end]) for start, end in arcs}
            structure = structure_of(kind, size, lambda name, place: int(place in arcs))
            with self.subTest(structure=structure):
                self.check(kind, structure)

    def test_points_that_no_single_renaming_of_a_chain_may_reach(self):
        kind = Kind([ARC], [])
        cases = [
            ([(0, 3), (1, 5), (4, 2)], [[0, 1, 4], [2, 3, 5]]),
            ([(2, 0), (3, 1), (4, 1), (5, 0)], [[0, 1], [2, 3, 4, 5]]),
            ([(0, 3), (0, 4), (2, 1), (2, 5)], [[0, 2], [1, 3, 4, 5]]),
        ]
        for arcs, orbits in cases:
            structure = structure_of(kind, 6, lambda name, place: int(place in arcs))
            self.assertEqual(point_orbits(kind, structure), orbits)

    def test_seven_points(self):
        kind = Kind([EDGE], [])
        path = structure_of(kind, 7, lambda name, place: int(place[1] - place[0] == 1))
        self.assertEqual(point_orbits(kind, path), [[0, 6], [1, 5], [2, 4], [3]])
        empty = structure_of(kind, 7, lambda name, place: 0)
        self.assertEqual(point_orbits(kind, empty), [[0, 1, 2, 3, 4, 5, 6]])
        turning = Kind([ARC], [])
        circle = structure_of(turning, 7, lambda name, place: int((place[1] - place[0]) % 7 in (1, 2, 4)))
        self.assertEqual(point_orbits(turning, circle), [[0, 1, 2, 3, 4, 5, 6]])
        line = structure_of(turning, 7, lambda name, place: int(place[0] < place[1]))
        self.assertEqual(point_orbits(turning, line), [[0], [1], [2], [3], [4], [5], [6]])

    def test_equal_cells_in_two_orbits(self):
        # A triangle and a square: each point has two neighbours, but no symmetry leads from one to the other.
        kind = Kind([EDGE], [])
        sides = [(0, 2), (2, 4), (0, 4), (1, 3), (3, 5), (5, 6), (1, 6)]
        structure = structure_of(kind, 7, lambda name, place: int(place in sides))
        self.assertEqual(point_orbits(kind, structure), [[0, 2, 4], [1, 3, 5, 6]])

    def test_no_points(self):
        for kind in sample_kinds().values():
            self.assertEqual(point_orbits(kind, ()), [])

    def test_more_layers_than_are_listed(self):
        kind = Kind(mixed_relations(), [(1, ("false",))])
        self.check(kind, structure_of(kind, 5, lambda name, place: 1))
        self.check(kind, some_structure(kind, 5, random.Random(171)))


class KeptCountTest(unittest.TestCase):

    def test_against_all_structures(self):
        for kind, most in small_kinds():
            for size in range(most + 1):
                found = every_one_of_kind(kind, size)
                for names in permutations(range(size)):
                    with self.subTest(relations=kind.relations, sentences=kind.sentences, names=names):
                        expected = sum(keeps(kind, structure, names) for structure in found)
                        self.assertEqual(kept_count(kind, size, names), expected)

    def test_the_renaming_that_keeps_each_point(self):
        for name in ["graphs", "tournaments", "trianglefree"]:
            kind = ready_kinds()[name]
            self.assertEqual(kept_count(kind, 5, (0, 1, 2, 3, 4)), len(all_structures(kind, 5)))

    def test_six_and_seven_points(self):
        chance = random.Random(172)
        for name, size in [("trianglefree", 6), ("equivalences", 7), ("orders", 5), ("triples", 5)]:
            kind = ready_kinds()[name]
            found = all_structures(kind, size)
            for _ in range(4):
                names = tuple(chance.sample(range(size), size))
                expected = sum(is_symmetry(kind, structure, names) for structure in found)
                self.assertEqual(kept_count(kind, size, names), expected)

    def test_no_points(self):
        for kind in sample_kinds().values():
            self.assertEqual(kept_count(kind, 0, ()), 1)


class ClassCountTest(unittest.TestCase):

    def test_against_the_classes(self):
        for kind, most in small_kinds():
            for size in range(most + 1):
                with self.subTest(relations=kind.relations, sentences=kind.sentences, size=size):
                    self.assertEqual(class_count(kind, size), len(listed_classes(kind, size)))

    def test_the_sum_over_all_renamings(self):
        for name in ["tournaments", "orders", "trianglefree"]:
            kind = ready_kinds()[name]
            for size in range(5):
                total = sum(kept_count(kind, size, names) for names in permutations(range(size)))
                self.assertEqual(class_count(kind, size) * factorial(size), total)

    def test_known_numbers(self):
        numbers = {
            "graphs": [1, 1, 2, 4, 11, 34, 156], "tournaments": [1, 1, 1, 2, 4, 12, 56], "orders": [1, 1, 2, 5, 16, 63],
            "equivalences": [1, 1, 2, 3, 5, 7, 11, 15], "trianglefree": [1, 1, 2, 3, 7, 14, 38],
        }
        for name, counts in numbers.items():
            self.assertEqual([class_count(ready_kinds()[name], size) for size in range(len(counts))], counts)

    def test_no_structures_and_no_points(self):
        kind = Kind([EDGE], [(3, ("false",))])
        self.assertEqual([class_count(kind, size) for size in range(8)], [1, 1, 2, 0, 0, 0, 0, 0])
        for kind in sample_kinds().values():
            self.assertEqual(class_count(kind, 0), 1)


if __name__ == "__main__":
    unittest.main()
