"""Points 11.1 and 11.2."""

import random
import unittest

from classes import all_symmetries, colours_by_rounds, some_kinds
from definitions import (
    ARC, BLOCK, EDGE, every_structure, mixed_relations, renamed_by, sample_kinds, some_structure, structure_of,
)
from oneofeach.kinds import Kind
from oneofeach.refine import cells


class CellsTest(unittest.TestCase):

    def check(self, kind, structure):
        """Compare the cells with the rounds."""
        found = cells(kind, structure)
        self.assertIs(type(found), list)
        self.assertEqual(found, colours_by_rounds(kind, structure)[-1])

    def test_structures_of_many_kinds(self):
        chance = random.Random(60)
        for kind in some_kinds(chance) + list(sample_kinds().values()):
            for size in range(8):
                structure = some_structure(kind, size, chance)
                with self.subTest(relations=kind.relations, structure=structure):
                    self.check(kind, structure)

    def test_all_small_structures(self):
        kinds = [
            (Kind([EDGE], []), 4), (Kind([ARC], []), 3), (Kind([("turn", 3, 2, False)], []), 3),
            (Kind([("colour", 1, 3, True), EDGE], []), 3), (Kind([BLOCK], []), 4),
        ]
        for kind, size in kinds:
            for structure in every_structure(kind, size):
                with self.subTest(relations=kind.relations, structure=structure):
                    self.check(kind, structure)

    def test_structures_with_few_values_above_0(self):
        chance = random.Random(61)
        for relation in [EDGE, ARC, BLOCK, ("turn", 3, 2, False)]:
            kind = Kind([relation], [])
            for _ in range(20):
                structure = structure_of(kind, 7, lambda name, place: int(chance.randrange(8) == 0))
                with self.subTest(relation=relation, structure=structure):
                    self.check(kind, structure)

    def test_the_order_of_the_colours_in_a_place(self):
        # Only where the relation is not symmetric may the order of the colours of a place count.
        chance = random.Random(65)
        colour = ("colour", 1, 3, False)
        for relation in [("turn", 3, 2, False), BLOCK]:
            kind = Kind([colour, relation], [])
            for _ in range(200):
                size = chance.randrange(4, 7)
                chosen = [tuple(sorted(chance.sample(range(size), 3))) for _ in range(3)]
                if not relation[3]:
                    chosen = [tuple(chance.sample(place, 3)) for place in chosen]
                structure = structure_of(
                    kind, size, lambda name, place: chance.randrange(3) if name == "colour" else int(place in chosen)
                )
                with self.subTest(relation=relation, structure=structure):
                    self.check(kind, structure)

    def test_the_order_of_others_tells_points_apart(self):
        kind = Kind([("colour", 1, 3, False), ("turn", 3, 2, False)], [])
        chosen = [(2, 1, 3), (3, 0, 2)]
        colours = [2, 2, 1, 0]
        structure = structure_of(
            kind, 4, lambda name, place: colours[place[0]] if name == "colour" else int(place in chosen)
        )
        self.assertEqual(cells(kind, structure), [3, 2, 1, 0])

    def test_a_path(self):
        kind = Kind([EDGE], [])
        path = structure_of(kind, 7, lambda name, place: int(place[1] - place[0] == 1))
        rounds = colours_by_rounds(kind, path)
        self.assertEqual([len(set(colours)) for colours in rounds], [1, 2, 3, 4, 4])
        self.assertEqual(cells(kind, path), rounds[-1])
        self.assertEqual(cells(kind, path), cells(kind, path)[::-1])

    def test_values_of_points_are_in_order(self):
        for symmetric in [False, True]:
            kind = Kind([("colour", 1, 10 ** 9 - 1, symmetric)], [])
            structure = tuple(((number,),) for number in [5, 10 ** 9 - 2, 0, 5])
            self.assertEqual(cells(kind, structure), [1, 2, 0, 1])

    def test_the_position_counts_where_the_order_does(self):
        kind = Kind([ARC], [])
        self.assertEqual(cells(kind, (((),), ((1, 0),))), [1, 0])
        self.assertEqual(cells(kind, (((),), ((0, 1),))), [0, 1])
        self.assertEqual(cells(kind, (((),), ((1, 1),))), [0, 0])

    def test_the_first_round_is_always_made(self):
        # All points look alike in the first round, so that no second one is made.
        kind = Kind([EDGE], [])
        two_triangles = structure_of(kind, 6, lambda name, place: int(place[0] // 3 == place[1] // 3))
        self.assertEqual(cells(kind, two_triangles), [0] * 6)
        star = structure_of(kind, 5, lambda name, place: int(place[0] == 0))
        self.assertEqual(cells(kind, star), [1, 0, 0, 0, 0])

    def test_no_points_and_no_relations(self):
        for kind in sample_kinds().values():
            self.assertEqual(cells(kind, ()), [])
            self.assertEqual(cells(kind, some_structure(kind, 1, random.Random(62))), [0])
        for size in range(8):
            self.assertEqual(cells(Kind([], []), ((),) * size), [0] * size)

    def test_renamed_structures_have_their_cells_renamed(self):
        chance = random.Random(63)
        for kind in some_kinds(chance) + [Kind(mixed_relations(), [])]:
            for size in range(8):
                structure = structure_of(kind, size, lambda name, place: int(chance.randrange(4) == 0))
                if kind.relations and min(relation[2] for relation in kind.relations) == 1:
                    structure = some_structure(kind, size, chance)
                names = tuple(chance.sample(range(size), size))
                with self.subTest(relations=kind.relations, structure=structure, names=names):
                    found = cells(kind, structure)
                    moved = cells(kind, renamed_by(kind, structure, names))
                    self.assertEqual([moved[name] for name in names], found)

    def test_symmetries_keep_the_cells(self):
        chance = random.Random(64)
        for kind in some_kinds(chance):
            for size in range(5):
                structure = some_structure(kind, size, chance)
                found = cells(kind, structure)
                for names in all_symmetries(kind, structure):
                    self.assertEqual([found[name] for name in names], found)


if __name__ == "__main__":
    unittest.main()
