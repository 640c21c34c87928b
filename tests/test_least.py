"""Points 3.2, 4.1, 4.2 and 4.3."""

import random
import unittest
from itertools import permutations
from math import prod

from classes import all_renamed, all_symmetries, is_chain, least_form, some_kinds
from definitions import (
    ARC, BLOCK, EDGE, every_structure, mixed_relations, ready_kinds, renamed_by, sample_kinds, some_structure,
    structure_of,
)
from oneofeach.kinds import Kind
from oneofeach.least import chain, is_least, least, plain_least, symmetries


def small_samples(seed):
    """Pairs of a kind and a structure with 0 to 5 points."""
    chance = random.Random(seed)
    found = []
    for kind in some_kinds(chance):
        for size in range(6):
            found.append((kind, some_structure(kind, size, chance)))
    return found


def great_samples(size):
    """Pairs of a kind and a structure of so many points, with many symmetries and with few."""
    chance = random.Random(31)
    last = size - 1
    rules = [
        (EDGE, lambda name, place: 0),
        (EDGE, lambda name, place: 1),
        (EDGE, lambda name, place: int(abs(place[0] - place[1]) in (1, last))),
        (EDGE, lambda name, place: int(place[0] // 2 == place[1] // 2)),
        (EDGE, lambda name, place: int(place == (0, last))),
        (EDGE, lambda name, place: chance.randrange(2)),
        (ARC, lambda name, place: int((place[1] - place[0]) % size in (1, 2, 4))),
        (ARC, lambda name, place: int(place[0] < place[1])),
        (BLOCK, lambda name, place: int(sum(place) % 7 == 0)),
        (BLOCK, lambda name, place: 1),
        (("colour", 1, 9, False), lambda name, place: place[0] // 3),
    ]
    return [(Kind([relation], []), structure_of(Kind([relation], []), size, rule)) for relation, rule in rules]


class LeastTest(unittest.TestCase):

    def check(self, kind, structure):
        """Compare the three functions with trying all renamings."""
        best, names = least_form(kind, structure)
        self.assertEqual(plain_least(kind, structure), (best, names))
        answer = least(kind, structure)
        self.assertIs(type(answer), tuple)
        self.assertEqual(answer[0], best)
        self.assertEqual(sorted(answer[1]), list(range(len(structure))))
        self.assertEqual(renamed_by(kind, structure, answer[1]), best)
        self.assertIs(is_least(kind, structure), structure == best)
        self.assertIs(is_least(kind, best), True)

    def test_structures_of_many_kinds(self):
        for kind, structure in small_samples(30):
            with self.subTest(relations=kind.relations, structure=structure):
                self.check(kind, structure)

    def test_all_small_structures(self):
        kinds = [
            (Kind([EDGE], []), 4), (Kind([ARC], []), 3), (Kind([("turn", 3, 2, False)], []), 3),
            (Kind([("colour", 1, 3, True)], []), 4), (Kind([BLOCK, ("mark", 1, 2, False)], []), 4),
            (Kind([], []), 5), (ready_kinds()["tournaments"], 3),
        ]
        for kind, size in kinds:
            for structure in every_structure(kind, size):
                with self.subTest(relations=kind.relations, structure=structure):
                    self.check(kind, structure)

    def test_six_points(self):
        for kind, structure in great_samples(6):
            with self.subTest(relations=kind.relations, structure=structure):
                self.check(kind, structure)

    def test_seven_points(self):
        for kind, structure in great_samples(7):
            with self.subTest(relations=kind.relations, structure=structure):
                best, names = plain_least(kind, structure)
                self.assertEqual(renamed_by(kind, structure, names), best)
                found, other = least(kind, structure)
                self.assertEqual(found, best)
                self.assertEqual(renamed_by(kind, structure, other), best)
                self.assertLessEqual(names, other)
                self.assertIs(is_least(kind, structure), structure == best)
                self.assertIs(is_least(kind, best), True)

    def test_seven_points_with_all_renamings(self):
        kind = ready_kinds()["orders"]
        self.check(kind, structure_of(kind, 7, lambda name, place: int(place[0] // 2 > place[1] // 2)))

    def test_the_first_point_has_the_least_values(self):
        kind = Kind([("colour", 1, 10 ** 9 - 1, False)], [])
        structure = tuple(((number,),) for number in [5, 10 ** 9 - 2, 0, 5])
        best = tuple(((number,),) for number in [0, 5, 5, 10 ** 9 - 2])
        self.assertEqual(plain_least(kind, structure), (best, (1, 3, 0, 2)))
        self.assertEqual(least(kind, structure)[0], best)

    def test_renamed_structures_have_the_same_least_structure(self):
        chance = random.Random(32)
        for kind, structure in small_samples(33) + great_samples(6) + great_samples(7):
            names = tuple(chance.sample(range(len(structure)), len(structure)))
            with self.subTest(relations=kind.relations, structure=structure, names=names):
                moved = renamed_by(kind, structure, names)
                found, other = least(kind, moved)
                self.assertEqual(found, least(kind, structure)[0])
                self.assertEqual(renamed_by(kind, moved, other), found)
                self.assertIs(is_least(kind, moved), moved == found)

    def test_first_layers_of_a_least_structure_are_least(self):
        for kind, structure in small_samples(34) + great_samples(6) + great_samples(7):
            best = least(kind, structure)[0]
            for size in range(len(structure)):
                with self.subTest(relations=kind.relations, structure=structure, size=size):
                    self.assertIs(is_least(kind, best[:size]), True)
                    self.assertEqual(least(kind, best[:size])[0], best[:size])

    def test_each_class_has_one_least_structure(self):
        kind = Kind([EDGE], [])
        for size, number in enumerate([1, 1, 2, 4, 11]):
            found = [structure for structure in every_structure(kind, size) if is_least(kind, structure)]
            self.assertEqual(len(found), number)

    def test_no_points(self):
        for kind in sample_kinds().values():
            self.assertEqual(plain_least(kind, ()), ((), ()))
            self.assertEqual(least(kind, ()), ((), ()))
            self.assertIs(is_least(kind, ()), True)

    def test_kinds_with_more_layers_than_are_listed(self):
        kind = Kind(mixed_relations(), [(1, ("false",))])
        structure = some_structure(kind, 5, random.Random(35))
        self.check(kind, structure)
        self.assertEqual(symmetries(kind, structure), all_symmetries(kind, structure))
        self.assertTrue(is_chain(kind, structure, chain(kind, structure)))


class SymmetriesTest(unittest.TestCase):

    def test_against_all_renamings(self):
        for kind, structure in small_samples(36) + great_samples(6):
            with self.subTest(relations=kind.relations, structure=structure):
                found = symmetries(kind, structure)
                self.assertIs(type(found), list)
                self.assertEqual(found, all_symmetries(kind, structure))

    def test_small_graphs_and_digraphs(self):
        for kind, size in [(Kind([EDGE], []), 4), (Kind([ARC], []), 3)]:
            for structure in every_structure(kind, size):
                self.assertEqual(symmetries(kind, structure), all_symmetries(kind, structure))
                self.assertTrue(is_chain(kind, structure, chain(kind, structure)), structure)

    def test_seven_points(self):
        for kind, structure in great_samples(7):
            with self.subTest(relations=kind.relations, structure=structure):
                found = symmetries(kind, structure)
                self.assertEqual(found, sorted(set(found)))
                self.assertEqual(len(found), prod(len(row) for row in chain(kind, structure)))
                for names in random.Random(37).sample(found, min(10, len(found))):
                    self.assertEqual(renamed_by(kind, structure, names), structure)

    def test_seven_points_with_all_values_equal(self):
        for relation in [EDGE, ARC, BLOCK, ("turn", 3, 2, False), ("colour", 1, 3, False)]:
            kind = Kind([relation], [])
            structure = structure_of(kind, 7, lambda name, place: 1)
            self.assertEqual(symmetries(kind, structure), list(permutations(range(7))))
            self.assertEqual([len(row) for row in chain(kind, structure)], [7, 6, 5, 4, 3, 2, 1])

    def test_numbers_of_symmetries_at_seven_points(self):
        numbers = [len(symmetries(kind, structure)) for kind, structure in great_samples(7)]
        self.assertEqual(numbers[:5], [5040, 5040, 14, 48, 240])
        self.assertEqual(numbers[6:8], [21, 1])
        self.assertEqual(numbers[9:], [5040, 36])

    def test_no_points(self):
        for kind in sample_kinds().values():
            self.assertEqual(symmetries(kind, ()), [()])
            self.assertEqual(chain(kind, ()), [])

    def test_one_point(self):
        for kind in sample_kinds().values():
            structure = some_structure(kind, 1, random.Random(38))
            self.assertEqual(symmetries(kind, structure), [(0,)])
            self.assertEqual(chain(kind, structure), [[(0,)]])

    def test_symmetries_make_a_class(self):
        for kind, structure in small_samples(39):
            found = all_renamed(kind, structure)
            self.assertEqual(len(set(found.values())) * len(symmetries(kind, structure)), len(found))


class ChainTest(unittest.TestCase):

    def test_against_all_renamings(self):
        for kind, structure in small_samples(40) + great_samples(6):
            with self.subTest(relations=kind.relations, structure=structure):
                lists = chain(kind, structure)
                self.assertTrue(is_chain(kind, structure, lists))
                self.assertEqual(prod(len(row) for row in lists), len(all_symmetries(kind, structure)))

    def test_seven_points(self):
        for kind, structure in great_samples(7)[2:5] + great_samples(7)[6:9]:
            with self.subTest(relations=kind.relations, structure=structure):
                self.assertTrue(is_chain(kind, structure, chain(kind, structure)))


if __name__ == "__main__":
    unittest.main()
