"""Point 11.3."""

import random
import unittest
from itertools import product

from classes import all_renamed, some_kinds
from definitions import (
    ARC, BLOCK, EDGE, every_structure, renamed_by, sample_kinds, some_structure, structure_of,
)
from oneofeach.kinds import Kind
from oneofeach.matching import match
from oneofeach.refine import cells


class MatchTest(unittest.TestCase):

    def check(self, kind, one, other):
        """Compare with trying all renamings."""
        found = match(kind, one, other)
        if len(one) != len(other) or other not in all_renamed(kind, one).values():
            self.assertIsNone(found)
        else:
            self.assertIs(type(found), tuple)
            self.assertEqual(sorted(found), list(range(len(one))))
            self.assertEqual(renamed_by(kind, one, found), other)

    def test_all_pairs_of_small_structures(self):
        kinds = [
            (Kind([EDGE], []), 3), (Kind([ARC], []), 2), (Kind([("colour", 1, 3, False)], []), 3),
            (Kind([BLOCK], []), 4), (Kind([("turn", 3, 2, False)], []), 3), (Kind([], []), 4),
        ]
        for kind, most in kinds:
            for size in range(most + 1):
                for one, other in product(every_structure(kind, size), repeat=2):
                    with self.subTest(relations=kind.relations, one=one, other=other):
                        self.check(kind, one, other)

    def test_pairs_with_four_points(self):
        kind = Kind([EDGE], [])
        chance = random.Random(70)
        for one in every_structure(kind, 4):
            for _ in range(4):
                self.check(kind, one, some_structure(kind, 4, chance))

    def test_renamed_structures(self):
        chance = random.Random(71)
        for kind in some_kinds(chance) + list(sample_kinds().values()):
            for size in range(8):
                one = some_structure(kind, size, chance)
                other = renamed_by(kind, one, tuple(chance.sample(range(size), size)))
                with self.subTest(relations=kind.relations, one=one, other=other):
                    found = match(kind, one, other)
                    self.assertEqual(renamed_by(kind, one, found), other)

    def test_structures_with_one_other_value(self):
        chance = random.Random(72)
        for relation in [EDGE, ARC, BLOCK, ("turn", 3, 2, False), ("colour", 1, 2, True)]:
            kind = Kind([relation], [])
            for size in [3, 4]:
                one = some_structure(kind, size, chance)
                layer = one[-1][0]
                other = one[:-1] + ((layer[:-1] + (1 - layer[-1],),),)
                self.assertIsNone(match(kind, one, other))
                self.check(kind, one, renamed_by(kind, other, tuple(chance.sample(range(size), size))))

    def test_equal_cells_and_no_match(self):
        kind = Kind([EDGE], [])
        hexagon = structure_of(kind, 6, lambda name, place: int(place[1] - place[0] in (1, 5)))
        triangles = structure_of(kind, 6, lambda name, place: int(place[0] // 3 == place[1] // 3))
        self.assertEqual(cells(kind, hexagon), cells(kind, triangles))
        self.assertIsNone(match(kind, hexagon, triangles))
        self.assertIsNone(match(kind, triangles, hexagon))
        self.assertIsNotNone(match(kind, hexagon, hexagon))
        turning = Kind([ARC], [])
        for steps in [(1, 2, 4), (1, 2, 3)]:
            one = structure_of(turning, 7, lambda name, place: int((place[1] - place[0]) % 7 in steps))
            other = structure_of(turning, 7, lambda name, place: int((place[1] - place[0]) % 7 in (1, 2, 4)))
            self.assertEqual(cells(turning, one), cells(turning, other))
            self.assertEqual(match(turning, one, other) is None, steps == (1, 2, 3))

    def test_different_numbers_of_points(self):
        chance = random.Random(73)
        for kind in sample_kinds().values():
            structure = some_structure(kind, 5, chance)
            for size in range(5):
                self.assertIsNone(match(kind, structure[:size], structure))
                self.assertIsNone(match(kind, structure, structure[:size]))

    def test_no_points(self):
        for kind in sample_kinds().values():
            self.assertEqual(match(kind, (), ()), ())

    def test_seven_points_with_all_values_equal(self):
        for relation in [EDGE, ARC, BLOCK, ("turn", 3, 2, False)]:
            kind = Kind([relation], [])
            one = structure_of(kind, 7, lambda name, place: 1)
            self.assertEqual(renamed_by(kind, one, match(kind, one, one)), one)
            other = one[:-1] + ((one[-1][0][:-1] + (0,),),)
            self.assertIsNone(match(kind, one, other))


if __name__ == "__main__":
    unittest.main()
