"""Point 8.2."""

import random
import unittest

from classes import all_renamed, some_kind, summed_count
from definitions import ARC, BLOCK, EDGE, every_structure, mixed_relations
from oneofeach.counting import orbit_count
from oneofeach.kinds import Kind


def count_classes(kind, size):
    """The number of classes, by collecting the renamed structures of each structure."""
    seen = set()
    count = 0
    for structure in every_structure(kind, size):
        if structure not in seen:
            count += 1
            seen.update(all_renamed(kind, structure).values())
    return count


class OrbitCountTest(unittest.TestCase):

    def test_known_numbers(self):
        self.assertEqual([orbit_count([EDGE], size) for size in range(8)], [1, 1, 2, 4, 11, 34, 156, 1044])
        self.assertEqual([orbit_count([ARC], size) for size in range(7)], [1, 1, 3, 16, 218, 9608, 1540944])
        self.assertEqual([orbit_count([BLOCK], size) for size in range(8)], [1, 1, 1, 2, 5, 34, 2136, 7013320])

    def test_against_counting_classes(self):
        cases = [
            ([], 4), ([EDGE], 4), ([ARC], 3), ([BLOCK], 4), ([("turn", 3, 2, False)], 3),
            ([("colour", 1, 3, False)], 4), ([("colour", 1, 3, True)], 4), ([("edge", 2, 3, True)], 3),
            ([EDGE, ("colour", 1, 2, False)], 3), ([EDGE, ARC], 2), ([BLOCK, ("mark", 1, 2, True)], 3),
        ]
        for relations, most in cases:
            for size in range(most + 1):
                with self.subTest(relations=relations, size=size):
                    self.assertEqual(orbit_count(relations, size), count_classes(Kind(relations, []), size))

    def test_by_the_sum(self):
        chance = random.Random(80)
        cases = [some_kind(count, chance).relations for count in [0, 1, 1, 1, 2, 2, 2, 3, 3, 3]]
        for relations in cases + [mixed_relations()]:
            for size in range(6):
                with self.subTest(relations=relations, size=size):
                    self.assertEqual(orbit_count(relations, size), summed_count(relations, size))

    def test_by_the_sum_for_six_and_seven_points(self):
        cases = [([ARC], 7), ([EDGE], 7), ([("colour", 1, 10 ** 9 - 1, False)], 7), ([BLOCK], 6)]
        for relations, size in cases + [([("turn", 3, 5, False), EDGE], 6)]:
            with self.subTest(relations=relations, size=size):
                self.assertEqual(orbit_count(relations, size), summed_count(relations, size))

    def test_no_relations(self):
        self.assertEqual([orbit_count([], size) for size in range(8)], [1] * 8)

    def test_no_points(self):
        for relations in [[], [EDGE], [ARC, BLOCK], mixed_relations()]:
            self.assertEqual(orbit_count(relations, 0), 1)

    def test_arities_greater_than_the_size(self):
        for relation in [("three", 3, 10 ** 9 - 1, False), ("three", 3, 10 ** 9 - 1, True)]:
            self.assertEqual([orbit_count([relation], size) for size in range(3)], [1, 1, 1])
        self.assertEqual(orbit_count([EDGE, ARC, ("colour", 1, 7, True)], 1), 7)

    def test_one_value(self):
        relations = [("only", 2, 1, False), ("lone", 1, 1, True), ("same", 3, 1, True)]
        self.assertEqual([orbit_count(relations, size) for size in range(8)], [1] * 8)

    def test_great_numbers_of_values(self):
        many = 10 ** 9 - 1
        self.assertEqual(orbit_count([("colour", 1, many, False)], 2), many * (many + 1) // 2)
        self.assertEqual(orbit_count([("edge", 2, many, True)], 2), many)
        self.assertEqual(orbit_count([("arc", 2, many, False)], 2), many * (many + 1) // 2)
        relations = [(name, 3, many, False) for name in "abcdef"]
        self.assertEqual(orbit_count(relations, 4), summed_count(relations, 4))
        self.assertGreater(orbit_count(relations, 7), many ** 1260 // 5040)


if __name__ == "__main__":
    unittest.main()
