"""Points 13.1 to 13.4."""

import random
import unittest
from itertools import permutations
from math import comb

from by_hand import in_one_class, paper_by_hand, parts_of_size, parts_without_one, small_kinds
from classes import all_renamed, some_kinds
from definitions import (
    ARC, EDGE, belongs, every_structure, mixed_relations, part_on, ready_kinds, renamed_by, sample_kinds,
    some_structure, structure_of,
)
from oneofeach.kinds import Kind
from oneofeach.profiles import embedding, occurrences, profile, telling


def count_occurrences(kind, structure, small):
    """Point 13.1."""
    in_class = set(all_renamed(kind, small).values())
    return sum(each in in_class for each in parts_of_size(kind, structure, len(small)))


def first_told(kind, one, other):
    """Point 13.4, with a look at all structures of the shape."""
    for size in range(1, max(len(one), len(other)) + 1):
        for small in every_structure(kind, size):
            if small == min(all_renamed(kind, small).values()):
                numbers = (count_occurrences(kind, one, small), count_occurrences(kind, other, small))
                if numbers[0] != numbers[1]:
                    return (small, *numbers)
    return None


class OccurrencesTest(unittest.TestCase):

    def test_against_the_parts(self):
        chance = random.Random(130)
        for kind in some_kinds(chance) + list(sample_kinds().values()):
            for size in range(6):
                structure = some_structure(kind, size, chance)
                for length in range(7):
                    small = some_structure(kind, length, chance)
                    if length <= size and chance.randrange(2):
                        small = part_on(kind, structure, chance.sample(range(size), length))
                    with self.subTest(relations=kind.relations, structure=structure, small=small):
                        found = occurrences(kind, structure, small)
                        self.assertEqual(found, count_occurrences(kind, structure, small) if length <= size else 0)

    def test_all_small_graphs_and_digraphs(self):
        for kind, size in [(Kind([EDGE], []), 4), (Kind([ARC], []), 3)]:
            for structure in every_structure(kind, size):
                for length in range(size):
                    for small in every_structure(kind, length):
                        expected = count_occurrences(kind, structure, small)
                        self.assertEqual(occurrences(kind, structure, small), expected)

    def test_the_small_structure_has_no_points(self):
        for kind in sample_kinds().values():
            for size in range(8):
                self.assertEqual(occurrences(kind, some_structure(kind, size, random.Random(131)), ()), 1)

    def test_the_small_structure_has_more_points(self):
        for kind in sample_kinds().values():
            structure = some_structure(kind, 7, random.Random(132))
            for size in range(7):
                self.assertEqual(occurrences(kind, structure[:size], structure), 0)

    def test_all_values_equal(self):
        kind = Kind([("turn", 3, 2, False), EDGE], [])
        structure = structure_of(kind, 7, lambda name, place: 1)
        for length in range(8):
            self.assertEqual(occurrences(kind, structure, structure[:length]), comb(7, length))

    def test_sums_over_the_parts_without_one_point(self):
        chance = random.Random(133)
        kind = ready_kinds()["trianglefree"]
        for _ in range(20):
            structure = some_structure(kind, 6, chance)
            for length in range(6):
                small = part_on(kind, structure, chance.sample(range(6), length))
                total = sum(occurrences(kind, each, small) for each in parts_without_one(kind, structure))
                self.assertEqual(total, (6 - length) * occurrences(kind, structure, small))


class ProfileTest(unittest.TestCase):

    def test_against_the_occurrences(self):
        chance = random.Random(134)
        for kind, most in small_kinds():
            paper = paper_by_hand(kind, most, chance)
            for size in range(most + 1):
                level = [item.structure for item in paper.levels[size]]
                for structure in [each.structure for items in paper.levels for each in items]:
                    with self.subTest(relations=kind.relations, structure=structure, size=size):
                        found = profile(kind, paper, structure, size)
                        self.assertIs(type(found), list)
                        self.assertEqual(found, [count_occurrences(kind, structure, small) for small in level])
                        self.assertEqual(sum(found), comb(len(structure), size))

    def test_structures_with_more_points_than_the_paper(self):
        chance = random.Random(135)
        for name in ["graphs", "tournaments"]:
            kind = ready_kinds()[name]
            paper = paper_by_hand(kind, 3, chance)
            for size in [5, 6, 7]:
                structure = structure_of(kind, size, lambda name, place: int(sum(place) % 3 == 1))
                if name == "tournaments":
                    structure = structure_of(kind, size, lambda name, place: int(place[0] < place[1]))
                self.assertTrue(belongs(kind, structure))
                for number in range(4):
                    level = [item.structure for item in paper.levels[number]]
                    found = profile(kind, paper, structure, number)
                    self.assertEqual(found, [count_occurrences(kind, structure, small) for small in level])

    def test_size_0_and_sizes_beyond_the_structure(self):
        kind = ready_kinds()["graphs"]
        paper = paper_by_hand(kind, 3, random.Random(136))
        self.assertEqual(profile(kind, paper, (), 0), [1])
        self.assertEqual(profile(kind, paper, (((),),), 0), [1])
        self.assertEqual(profile(kind, paper, (), 3), [0, 0, 0, 0])
        self.assertEqual(profile(kind, paper, (((),), ((1,),)), 3), [0, 0, 0, 0])

    def test_an_empty_list(self):
        kind = sample_kinds()["bare, at most two points"]
        paper = paper_by_hand(kind, 3, random.Random(137))
        self.assertEqual(profile(kind, paper, ((), ()), 3), [])


class EmbeddingTest(unittest.TestCase):

    def test_against_all_tuples_of_points(self):
        chance = random.Random(138)
        for kind in some_kinds(chance) + list(sample_kinds().values()):
            for size in range(5):
                structure = some_structure(kind, size, chance)
                for length in range(6):
                    small = some_structure(kind, length, chance)
                    if length <= size and chance.randrange(2):
                        small = part_on(kind, structure, chance.sample(range(size), length))
                    with self.subTest(relations=kind.relations, structure=structure, small=small):
                        self.check(kind, small, structure)

    def check(self, kind, small, structure):
        """Compare with all tuples of points."""
        found = embedding(kind, small, structure)
        right = []
        for points in permutations(range(len(structure)), len(small)):
            if part_on(kind, structure, list(points)) == small:
                right.append(points)
        if right:
            self.assertIs(type(found), tuple)
            self.assertIn(found, right)
        else:
            self.assertIsNone(found)

    def test_all_small_graphs(self):
        kind = Kind([EDGE], [])
        for structure in every_structure(kind, 4):
            for length in range(4):
                for small in every_structure(kind, length):
                    self.check(kind, small, structure)

    def test_no_points(self):
        for kind in sample_kinds().values():
            structure = some_structure(kind, 5, random.Random(139))
            self.assertEqual(embedding(kind, (), structure), ())
            self.assertEqual(embedding(kind, (), ()), ())
            self.assertIsNone(embedding(kind, structure, ()))
            self.assertIsNone(embedding(kind, structure, structure[:4]))

    def test_seven_points(self):
        kind = Kind(mixed_relations(), [])
        structure = some_structure(kind, 7, random.Random(140))
        for points in [[3, 1, 6, 0, 5, 2, 4], [6, 2, 3], [5]]:
            small = part_on(kind, structure, points)
            found = embedding(kind, small, structure)
            self.assertEqual(part_on(kind, structure, list(found)), small)


class TellingTest(unittest.TestCase):

    def test_against_all_structures_of_the_shape(self):
        chance = random.Random(141)
        kinds = [Kind([EDGE], []), ready_kinds()["orders"], Kind([("mark", 1, 2, False), EDGE], []), Kind([], [])]
        kinds += [ready_kinds()["triples"], sample_kinds()["bare, at most two points"]]
        for kind in kinds:
            for _ in range(25):
                one = some_structure(kind, chance.randrange(4), chance)
                other = some_structure(kind, chance.randrange(4), chance)
                with self.subTest(relations=kind.relations, one=one, other=other):
                    found = telling(kind, one, other)
                    self.assertEqual(found, first_told(kind, one, other))
                    self.assertEqual(found is None, in_one_class(kind, one, other))

    def test_graphs_with_four_points(self):
        chance = random.Random(142)
        kind = Kind([EDGE], [])
        for _ in range(25):
            one, other = some_structure(kind, 4, chance), some_structure(kind, 4, chance)
            self.assertEqual(telling(kind, one, other), first_told(kind, one, other))

    def test_a_tuple(self):
        kind = Kind([EDGE], [])
        path = (((),), ((1,),), ((0, 1),))
        wedge = (((),), ((1,),), ((1, 1),))
        self.assertEqual(telling(kind, path, wedge), ((((),), ((0,),)), 1, 0))
        self.assertEqual(telling(kind, wedge, path), ((((),), ((0,),)), 0, 1))
        self.assertEqual(telling(kind, (), path), ((((),),), 0, 3))

    def test_the_one_class(self):
        chance = random.Random(143)
        for kind in sample_kinds().values():
            for size in range(7):
                one = some_structure(kind, size, chance)
                other = renamed_by(kind, one, tuple(chance.sample(range(size), size)))
                self.assertIsNone(telling(kind, one, other))

    def test_equal_numbers_of_all_smaller_parts(self):
        kind = Kind([EDGE], [])
        pair, lone = (((),), ((1,),)), (((),), ((0,),))
        self.assertEqual(telling(kind, pair, lone), (lone, 0, 1))
        hexagon = structure_of(kind, 6, lambda name, place: int(place[1] - place[0] in (1, 5)))
        triangles = structure_of(kind, 6, lambda name, place: int(place[0] // 3 == place[1] // 3))
        found = telling(kind, hexagon, triangles)
        self.assertEqual(len(found[0]), 3)
        self.assertEqual(found, first_told(kind, hexagon, triangles))

    def test_great_numbers_of_values(self):
        kind = Kind([("colour", 1, 10 ** 9 - 1, False)], [])
        one = tuple(((number,),) for number in [7, 10 ** 9 - 2, 7])
        other = tuple(((number,),) for number in [10 ** 9 - 2, 7, 10 ** 9 - 2])
        self.assertEqual(telling(kind, one, other), ((((7,),),), 2, 1))
        self.assertEqual(occurrences(kind, one, (((7,),),)), 2)
        self.assertEqual(embedding(kind, other[:1], one), (1,))


if __name__ == "__main__":
    unittest.main()
