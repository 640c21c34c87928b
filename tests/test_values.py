"""Points 2.3 and 2.4: value and part."""

import random
import unittest
from itertools import permutations

from definitions import ARC, BLOCK, EDGE, listed_values, part_on, sample_kinds, some_structure
from oneofeach.kinds import Kind
from oneofeach.structures import has_shape, is_of_kind, part, value


class ValueTest(unittest.TestCase):

    def test_each_relation_against_the_definition(self):
        chance = random.Random(4)
        for name, kind in sample_kinds().items():
            for size in range(6):
                structure = some_structure(kind, size, chance)
                for relation, table in listed_values(kind, structure).items():
                    with self.subTest(kind=name, size=size, relation=relation):
                        for points, number in table.items():
                            self.assertEqual(value(kind, structure, relation, points), number)

    def test_not_symmetric(self):
        kind = Kind([ARC], [])
        structure = (((),), ((1, 0),), ((0, 0, 1, 1),))
        found = {pair: value(kind, structure, "arc", pair) for pair in permutations(range(3), 2)}
        self.assertEqual(found, {(0, 1): 1, (1, 0): 0, (0, 2): 0, (1, 2): 0, (2, 0): 1, (2, 1): 1})

    def test_symmetric_in_any_order(self):
        kind = Kind([EDGE, ("block", 3, 9, True)], [])
        structure = (((), ()), ((1,), ()), ((0, 1), (7,)), ((0, 0, 0), (4, 5, 6)))
        for points in permutations((0, 1, 2)):
            self.assertEqual(value(kind, structure, "block", points), 7)
        for points in permutations((0, 2, 3)):
            self.assertEqual(value(kind, structure, "block", points), 5)
        self.assertEqual(value(kind, structure, "edge", (1, 2)), 1)
        self.assertEqual(value(kind, structure, "edge", (2, 1)), 1)
        self.assertEqual(value(kind, structure, "edge", (2, 0)), 0)

    def test_arity_one(self):
        for symmetric in (True, False):
            kind = Kind([EDGE, ("colour", 1, 10 ** 9 - 1, symmetric)], [])
            structure = (((), (8,)), ((0,), (10 ** 9 - 2,)))
            self.assertEqual(value(kind, structure, "colour", (0,)), 8)
            self.assertEqual(value(kind, structure, "colour", (1,)), 10 ** 9 - 2)

    def test_greatest_points(self):
        kind = Kind([("turn", 3, 2, False)], [])
        structure = some_structure(kind, 7, random.Random(5))
        table = listed_values(kind, structure)["turn"]
        self.assertEqual(len(table), 210)
        for points, number in table.items():
            self.assertEqual(value(kind, structure, "turn", points), number)


class PartTest(unittest.TestCase):

    def test_against_the_definition(self):
        chance = random.Random(6)
        for name, kind in sample_kinds().items():
            for size in range(6):
                structure = some_structure(kind, size, chance)
                for length in range(size + 1):
                    points = chance.sample(range(size), length)
                    with self.subTest(kind=name, structure=structure, points=points):
                        found = part(kind, structure, points)
                        self.assertEqual(found, part_on(kind, structure, points))
                        self.assertIs(has_shape(kind, found), True)

    def test_points_in_any_order(self):
        kind = Kind([ARC], [])
        structure = (((),), ((1, 0),), ((0, 0, 1, 1),))
        self.assertEqual(part(kind, structure, [0, 1, 2]), structure)
        self.assertEqual(part(kind, structure, [1, 0]), (((),), ((0, 1),)))
        self.assertEqual(part(kind, structure, [2, 0]), (((),), ((1, 0),)))
        self.assertEqual(part(kind, structure, [0, 2]), (((),), ((0, 1),)))
        self.assertEqual(part(kind, structure, [2, 0, 1]), (((),), ((1, 0),), ((1, 1, 0, 0),)))

    def test_empty_list(self):
        chance = random.Random(7)
        for kind in sample_kinds().values():
            self.assertEqual(part(kind, some_structure(kind, 4, chance), []), ())
            self.assertEqual(part(kind, (), []), ())

    def test_first_points(self):
        chance = random.Random(8)
        for kind in sample_kinds().values():
            structure = some_structure(kind, 5, chance)
            for length in range(6):
                self.assertEqual(part(kind, structure, list(range(length))), structure[:length])

    def test_part_of_a_part(self):
        chance = random.Random(9)
        for kind in sample_kinds().values():
            structure = some_structure(kind, 6, chance)
            points = chance.sample(range(6), 4)
            chosen = chance.sample(range(4), 3)
            self.assertEqual(
                part(kind, part(kind, structure, points), chosen),
                part(kind, structure, [points[index] for index in chosen]),
            )

    def test_list_stays_as_it_was(self):
        kind = Kind([BLOCK], [])
        points = [3, 0, 2]
        part(kind, some_structure(kind, 4, random.Random(10)), points)
        self.assertEqual(points, [3, 0, 2])

    def test_of_structures_that_are_not_of_the_kind(self):
        kind = Kind([EDGE], [(2, ("is", "edge", (0, 1), 0))])
        structure = (((),), ((1,),), ((0, 1),))
        self.assertIs(is_of_kind(kind, structure), False)
        self.assertEqual(part(kind, structure, [2, 1]), (((),), ((1,),)))


if __name__ == "__main__":
    unittest.main()
