"""Points 10.1 and 10.2."""

import random
import unittest
from itertools import permutations
from math import prod

from classes import all_symmetries, other_chain, some_kinds
from definitions import ARC, BLOCK, EDGE, sample_kinds, some_structure, structure_of
from oneofeach.group import order, positions, symmetry_at, symmetry_number
from oneofeach.kinds import Kind
from oneofeach.least import chain

CIRCLE = lambda name, place: int(abs(place[0] - place[1]) in (1, 4))


def samples(seed):
    """Triples of a kind, a structure and a chain of its symmetries, both of the own function and others."""
    chance = random.Random(seed)
    found = []
    for kind in some_kinds(chance):
        for size in range(5):
            found.append((kind, some_structure(kind, size, chance)))
    for size in range(6):
        for relation in [EDGE, ARC, BLOCK]:
            kind = Kind([relation], [])
            found.append((kind, structure_of(kind, size, lambda name, place: 0)))
    circle = Kind([EDGE], [])
    found.append((circle, structure_of(circle, 5, CIRCLE)))
    turned = Kind([ARC], [])
    found.append((turned, structure_of(turned, 6, lambda name, place: int((place[1] - place[0]) % 6 == 1))))
    triples = []
    for kind, structure in found:
        triples.append((kind, structure, chain(kind, structure)))
        triples.append((kind, structure, other_chain(kind, structure, chance)))
    return triples


def made_of(lists, found):
    """Point 10.1, the other way: the renamings at the positions, the last list first."""
    names = tuple(range(len(lists)))
    for row, position in reversed(list(zip(lists, found))):
        names = tuple(row[position][name] for name in names)
    return names


class OrderTest(unittest.TestCase):

    def test_product_of_the_lengths(self):
        for kind, structure, lists in samples(50):
            self.assertEqual(order(lists), prod(len(row) for row in lists))
            self.assertEqual(order(lists), len(all_symmetries(kind, structure)))

    def test_no_points(self):
        self.assertEqual(order([]), 1)

    def test_seven_points(self):
        kind = Kind([EDGE], [])
        self.assertEqual(order(chain(kind, structure_of(kind, 7, lambda name, place: 1))), 5040)


class PositionsTest(unittest.TestCase):

    def test_each_symmetry_is_made_of_its_positions(self):
        for kind, structure, lists in samples(51):
            with self.subTest(relations=kind.relations, structure=structure, lists=lists):
                seen = set()
                for names in all_symmetries(kind, structure):
                    found = positions(lists, names)
                    self.assertIs(type(found), list)
                    self.assertEqual(len(found), len(lists))
                    self.assertTrue(all(0 <= at < len(row) for at, row in zip(found, lists)))
                    self.assertEqual(made_of(lists, found), names)
                    seen.add(tuple(found))
                self.assertEqual(len(seen), order(lists))

    def test_an_example(self):
        lists = [[(0, 1, 2), (1, 2, 0), (2, 1, 0)], [(0, 1, 2), (0, 2, 1)], [(0, 1, 2)]]
        self.assertEqual(positions(lists, (0, 1, 2)), [0, 0, 0])
        self.assertEqual(positions(lists, (0, 2, 1)), [0, 1, 0])
        self.assertEqual(positions(lists, (1, 2, 0)), [1, 0, 0])
        # (1, 0, 2) brings 0 to 1 as (1, 2, 0) does; undone behind it, this leaves (0, 2, 1).
        self.assertEqual(positions(lists, (1, 0, 2)), [1, 1, 0])
        self.assertEqual(positions(lists, (2, 0, 1)), [2, 1, 0])
        self.assertEqual(symmetry_number(lists, (1, 0, 2)), 3)
        self.assertEqual(symmetry_number(lists, (2, 1, 0)), 4)
        self.assertEqual(symmetry_at(lists, 3), (1, 0, 2))

    def test_none_for_what_is_no_symmetry(self):
        for kind, structure, lists in samples(52):
            found = all_symmetries(kind, structure)
            for names in permutations(range(len(structure))):
                if names not in found:
                    self.assertIsNone(positions(lists, names))
                    self.assertIsNone(symmetry_number(lists, names))

    def test_no_symmetry_but_the_first_lists_fit(self):
        kind = Kind([EDGE], [])
        lists = chain(kind, structure_of(kind, 5, CIRCLE))
        self.assertEqual(positions(lists, (0, 4, 3, 2, 1)), [0, 1, 0, 0, 0])
        for names in [(0, 1, 2, 4, 3), (0, 4, 3, 1, 2), (1, 0, 4, 2, 3), (2, 1, 0, 3, 4)]:
            self.assertIsNone(positions(lists, names))
            self.assertIsNone(symmetry_number(lists, names))

    def test_no_points(self):
        self.assertEqual(positions([], ()), [])
        self.assertEqual(symmetry_number([], ()), 0)
        self.assertEqual(symmetry_at([], 0), ())
        self.assertIsNone(symmetry_at([], 1))
        self.assertIsNone(symmetry_at([], -1))


class NumbersTest(unittest.TestCase):

    def test_each_number_gives_another_symmetry(self):
        for kind, structure, lists in samples(53):
            with self.subTest(relations=kind.relations, structure=structure, lists=lists):
                found = [symmetry_at(lists, number) for number in range(order(lists))]
                self.assertEqual(sorted(found), all_symmetries(kind, structure))
                self.assertTrue(all(type(names) is tuple for names in found))
                numbers = [symmetry_number(lists, names) for names in found]
                self.assertEqual(numbers, list(range(order(lists))))

    def test_the_first_position_is_worth_most(self):
        for kind, structure, lists in samples(54):
            found = [positions(lists, symmetry_at(lists, number)) for number in range(order(lists))]
            self.assertEqual(found, sorted(found))
            for number, row in enumerate(found):
                worth = 0
                for at, renamings in zip(row, lists):
                    worth = worth * len(renamings) + at
                self.assertEqual(worth, number)

    def test_none_for_other_numbers(self):
        for _, _, lists in samples(55):
            for number in [-1, -2, -order(lists), order(lists), order(lists) + 1, 10 ** 50, -10 ** 50]:
                self.assertIsNone(symmetry_at(lists, number), number)

    def test_seven_points(self):
        kind = Kind([EDGE], [])
        structure = structure_of(kind, 7, lambda name, place: 1)
        lists = chain(kind, structure)
        found = [symmetry_at(lists, number) for number in range(5040)]
        self.assertEqual(sorted(found), list(permutations(range(7))))
        for number in range(0, 5040, 97):
            self.assertEqual(symmetry_number(lists, found[number]), number)
        self.assertIsNone(symmetry_at(lists, 5040))

    def test_sample_kinds(self):
        chance = random.Random(56)
        for kind in sample_kinds().values():
            structure = some_structure(kind, 6, chance)
            lists = chain(kind, structure)
            for number in range(order(lists)):
                self.assertEqual(symmetry_number(lists, symmetry_at(lists, number)), number)


if __name__ == "__main__":
    unittest.main()
