"""Points 13.5 and 13.6, and with_deck (point 7.3)."""

import random
import unittest
from itertools import combinations

from by_hand import listed_extensions, number_in, paper_by_hand, parts_without_one, small_kinds
from definitions import (
    EDGE, belongs, every_structure, listed_layers, mixed_relations, part_on, ready_kinds, sample_kinds, says,
    some_structure, structure_of,
)
from oneofeach.errors import TooManyLayers
from oneofeach.kinds import Kind
from oneofeach.parts import joins, largest_part, with_deck
from oneofeach.structures import count_layers


class LargestPartTest(unittest.TestCase):

    def check(self, kind, structure):
        """Compare with all lists of points."""
        found = largest_part(kind, structure)
        self.assertIs(type(found), list)
        self.assertEqual(found, sorted(set(found)))
        self.assertTrue(belongs(kind, part_on(kind, structure, found)))
        for points in combinations(range(len(structure)), min(len(found) + 1, len(structure))):
            if len(points) > len(found):
                self.assertFalse(belongs(kind, part_on(kind, structure, list(points))))

    def test_small_structures(self):
        chance = random.Random(150)
        for kind, most in small_kinds():
            for size in range(most + 1):
                found = every_structure(kind, size)
                for structure in found if len(found) <= 80 else chance.sample(found, 80):
                    with self.subTest(sentences=kind.sentences, structure=structure):
                        self.check(kind, structure)

    def test_great_structures(self):
        chance = random.Random(151)
        for name, kind in sample_kinds().items():
            for size in [5, 6, 7]:
                structure = some_structure(kind, size, chance)
                with self.subTest(kind=name, structure=structure):
                    self.check(kind, structure)

    def test_structures_of_the_kind(self):
        for size in range(8):
            for name in ["graphs", "digraphs", "triples"]:
                structure = some_structure(ready_kinds()[name], size, random.Random(152))
                self.assertEqual(largest_part(ready_kinds()[name], structure), list(range(size)))

    def test_complete_graphs(self):
        kind = ready_kinds()["trianglefree"]
        for size in range(8):
            complete = structure_of(kind, size, lambda name, place: 1)
            self.assertEqual(len(largest_part(kind, complete)), min(size, 2))

    def test_no_part_but_the_empty_one(self):
        kind = sample_kinds()["nothing but no points"]
        for size in range(8):
            self.assertEqual(largest_part(kind, some_structure(kind, size, random.Random(153))), [])

    def test_more_layers_than_are_listed(self):
        kind = Kind(mixed_relations(), [(2, ("not", says("edge", (0, 1), 2))), (1, ("not", says("colour", (0,), 1)))])
        self.check(kind, some_structure(kind, 7, random.Random(154)))


class JoinsTest(unittest.TestCase):

    def listed_joins(self, kind, structure, one, other):
        """Point 13.6."""
        size = len(structure)
        points = [point for point in range(size + 2) if point != size]
        found = []
        for layer in listed_layers(kind, size + 1):
            longer = structure + (one, layer)
            if belongs(kind, longer) and part_on(kind, longer, points) == structure + (other,):
                found.append(layer)
        return found

    def test_against_all_layers(self):
        chance = random.Random(155)
        for kind, most in small_kinds():
            for size in range(most - 1):
                for structure in every_structure(kind, size):
                    if not belongs(kind, structure):
                        continue
                    layers = listed_extensions(kind, structure)
                    for one in layers if len(layers) < 5 else chance.sample(layers, 4):
                        for other in layers if len(layers) < 5 else chance.sample(layers, 4):
                            with self.subTest(relations=kind.relations, structure=structure, one=one, other=other):
                                found = joins(kind, structure, one, other)
                                self.assertIs(type(found), list)
                                self.assertEqual(found, self.listed_joins(kind, structure, one, other))

    def test_graphs(self):
        kind = ready_kinds()["graphs"]
        path = (((),), ((1,),))
        self.assertEqual(joins(kind, path, ((0, 1),), ((1, 0),)), [((1, 0, 0),), ((1, 0, 1),)])
        kind = ready_kinds()["trianglefree"]
        self.assertEqual(joins(kind, path, ((0, 1),), ((0, 1),)), [((0, 1, 0),)])
        self.assertEqual(joins(kind, (), ((),), ((),)), [((0,),), ((1,),)])

    def test_no_layer_joins(self):
        kind = Kind([("mark", 1, 2, False)], [(2, ("same", says("mark", (0,), 1), says("mark", (1,), 0)))])
        self.assertEqual(joins(kind, (), ((0,),), ((0,),)), [])
        self.assertEqual(joins(kind, (), ((0,),), ((1,),)), [((1,),)])

    def test_too_many_layers(self):
        kind = Kind([("edge", 2, 8, True)], [])
        structure = structure_of(kind, 4, lambda name, place: 0)
        layer = ((0, 0, 0, 0),)
        self.assertEqual(len(joins(kind, structure[:3], structure[3], structure[3])), 8)
        with self.assertRaises(TooManyLayers) as held:
            joins(kind, structure, layer, layer)
        self.assertEqual(held.exception.count, 8 ** 5)
        kind = Kind(mixed_relations(), [])
        structure = some_structure(kind, 3, random.Random(156))
        with self.assertRaises(TooManyLayers) as held:
            joins(kind, structure[:2], structure[2], structure[2])
        self.assertEqual(held.exception.count, count_layers(kind, 3))
        with self.assertRaises(TooManyLayers) as held:
            joins(kind, structure[:1], structure[1], structure[1])
        self.assertEqual(held.exception.count, count_layers(kind, 2))


class WithDeckTest(unittest.TestCase):

    def test_all_decks(self):
        chance = random.Random(157)
        for kind, most in small_kinds():
            paper = paper_by_hand(kind, most, chance)
            for size in range(1, most + 1):
                decks = []
                for item in paper.levels[size]:
                    parts = parts_without_one(kind, item.structure)
                    decks.append(sorted(number_in(kind, paper, each) for each in parts))
                for numbers in decks:
                    expected = [number for number, found in enumerate(decks) if found == numbers]
                    for order in [numbers, numbers[::-1], chance.sample(numbers, len(numbers))]:
                        found = with_deck(kind, paper, size, order)
                        self.assertIs(type(found), list)
                        self.assertEqual(found, expected)

    def test_other_lists_of_numbers(self):
        kind = ready_kinds()["graphs"]
        paper = paper_by_hand(kind, 4, random.Random(158))
        numbers = [number_in(kind, paper, each) for each in parts_without_one(kind, paper.levels[4][3].structure)]
        self.assertIn(3, with_deck(kind, paper, 4, numbers))
        for wrong in [numbers[1:], numbers + [numbers[0]], [], [9] * 4, [-1] * 4, numbers[:3] + [99]]:
            self.assertEqual(with_deck(kind, paper, 4, wrong), [])
        self.assertEqual(with_deck(kind, paper, 1, [0]), [0])
        self.assertEqual(with_deck(kind, paper, 1, [0, 0]), [])
        self.assertEqual(with_deck(kind, paper, 2, [0, 0]), [0, 1])

    def test_an_empty_list(self):
        kind = sample_kinds()["bare, at most two points"]
        paper = paper_by_hand(kind, 3, random.Random(159))
        self.assertEqual(with_deck(kind, paper, 3, [0, 0, 0]), [])
        self.assertEqual(with_deck(kind, paper, 2, [0, 0]), [0])

    def test_the_numbers_stay(self):
        kind = Kind([EDGE], [])
        paper = paper_by_hand(kind, 3, random.Random(160))
        numbers = [1, 0, 1]
        with_deck(kind, paper, 3, numbers)
        self.assertEqual(numbers, [1, 0, 1])


if __name__ == "__main__":
    unittest.main()
