"""Points 12.1 and 12.2."""

import random
import unittest
from itertools import combinations

from by_hand import parts_without_one, small_kinds
from classes import all_renamed
from definitions import (
    ARC, EDGE, belongs, both, every_structure, mixed_relations, part_on, ready_kinds, sample_kinds, says,
    some_formula, some_structure, structure_of,
)
from oneofeach.errors import TooManyLayers
from oneofeach.kinds import Kind
from oneofeach.obstructions import is_obstruction, obstructions, offending
from oneofeach.structures import count_layers


def obstructs(kind, structure):
    """Point 12.1."""
    return not belongs(kind, structure) and all(belongs(kind, each) for each in parts_without_one(kind, structure))


def listed_obstructions(kind, size):
    """Point 12.1, the least obstructions with so many points."""
    found = [structure for structure in every_structure(kind, size) if obstructs(kind, structure)]
    return [structure for structure in found if structure == min(all_renamed(kind, structure).values())]


def kinds_with_sentences():
    """Pairs of a kind with sentences of one to four variables and a size with few structures."""
    chance = random.Random(100)
    found = small_kinds()
    for relations, size in [([EDGE], 4), ([ARC], 3), ([("mark", 1, 2, False), EDGE], 3), ([("block", 3, 2, True)], 4)]:
        for counts in [(1, 2), (2, 3), (3,), (4,), (2, 4), (1, 2, 3, 4)]:
            sentences = [(count, some_formula(relations, count, 3, chance)) for count in counts]
            found.append((Kind(relations, sentences), size))
    square = [says("edge", pair, 1) for pair in [(0, 1), (1, 2), (2, 3), (0, 3)]]
    found.append((Kind([EDGE], [(4, ("not", both(*square)))]), 4))
    found.append((Kind([EDGE], [(4, ("not", both(*square))), (3, ("not", both(*square[:2])))]), 4))
    return found


class ObstructionsTest(unittest.TestCase):

    def test_against_all_structures(self):
        for kind, most in kinds_with_sentences():
            with self.subTest(relations=kind.relations, sentences=kind.sentences):
                expected = [listed_obstructions(kind, size) for size in range(most + 1)]
                for size in range(most + 1):
                    found = obstructions(kind, size)
                    self.assertEqual(found, expected[:size + 1])
                    self.assertTrue(all(type(level) is list for level in found))

    def test_ready_kinds(self):
        numbers = {
            "graphs": [0, 0, 0, 0, 0], "digraphs": [0, 0, 0, 0, 0], "tournaments": [0, 0, 2, 0, 0],
            "orders": [0, 0, 1, 2, 0], "equivalences": [0, 0, 0, 1, 0], "trianglefree": [0, 0, 0, 1, 0],
            "triples": [0, 0, 0, 0, 0],
        }
        for name, kind in ready_kinds().items():
            self.assertEqual([len(level) for level in obstructions(kind, 4)], numbers[name], name)
        triangle = (((),), ((1,),), ((1, 1),))
        self.assertEqual(obstructions(ready_kinds()["trianglefree"], 3)[3], [triangle])

    def test_five_to_seven_points(self):
        for kind, _ in kinds_with_sentences():
            for size in [5, 6, 7]:
                if max(count_layers(kind, point) for point in range(size)) <= 1024:
                    found = obstructions(kind, size)
                    self.assertEqual(found[5:], [[]] * (size - 4))
                    self.assertEqual(found[:5], obstructions(kind, 4))

    def test_the_structure_without_points_is_none(self):
        for kind in sample_kinds().values():
            self.assertEqual(obstructions(kind, 0), [[]])
            self.assertIs(is_obstruction(kind, ()), False)
            self.assertIsNone(offending(kind, ()))
        kind = Kind([], [(1, ("false",))])
        self.assertEqual(obstructions(kind, 2), [[], [((),)], []])
        self.assertIs(is_obstruction(kind, ()), False)
        self.assertIs(is_obstruction(kind, ((),)), True)
        self.assertIs(is_obstruction(kind, ((), ())), False)

    def test_no_sentences(self):
        for size in range(5):
            self.assertEqual(obstructions(Kind([EDGE], []), size), [[]] * (size + 1))
        self.assertEqual(obstructions(Kind([], []), 7), [[]] * 8)

    def test_too_many_layers(self):
        kind = Kind(mixed_relations(), [(2, ("false",))])
        for size in range(3):
            self.assertEqual(len(obstructions(kind, size)), size + 1)
        for size in range(3, 8):
            with self.assertRaises(TooManyLayers) as held:
                obstructions(kind, size)
            self.assertEqual(held.exception.count, 221184)
        # The layers are counted even for numbers of points that have no obstructions.
        late = Kind([("edge", 2, 8, True)], [(1, ("false",))])
        self.assertEqual(len(obstructions(late, 5)), 6)
        for size in [6, 7]:
            with self.assertRaises(TooManyLayers) as held:
                obstructions(late, size)
            self.assertEqual(held.exception.count, 8 ** 5)


class IsObstructionTest(unittest.TestCase):

    def test_against_all_structures(self):
        for kind, most in kinds_with_sentences():
            for size in range(most + 1):
                for structure in every_structure(kind, size)[::3]:
                    with self.subTest(sentences=kind.sentences, structure=structure):
                        self.assertIs(is_obstruction(kind, structure), obstructs(kind, structure))

    def test_great_structures_are_none(self):
        chance = random.Random(101)
        for kind, _ in kinds_with_sentences():
            for size in [5, 6, 7]:
                self.assertIs(is_obstruction(kind, some_structure(kind, size, chance)), False)

    def test_structures_that_are_not_least(self):
        kind = ready_kinds()["orders"]
        line = (((),), ((1, 0),), ((0, 1, 0, 0),))
        for structure in all_renamed(kind, line).values():
            self.assertIs(is_obstruction(kind, structure), True)


class OffendingTest(unittest.TestCase):

    def check(self, kind, structure):
        """Check the offending points by point 12.2."""
        found = offending(kind, structure)
        if belongs(kind, structure):
            self.assertIsNone(found)
        else:
            self.assertIs(type(found), list)
            self.assertEqual(found, sorted(set(found)))
            self.assertTrue(obstructs(kind, part_on(kind, structure, found)))

    def test_against_all_structures(self):
        for kind, most in kinds_with_sentences():
            for size in range(most + 1):
                for structure in every_structure(kind, size)[::3]:
                    with self.subTest(sentences=kind.sentences, structure=structure):
                        self.check(kind, structure)

    def test_great_structures(self):
        chance = random.Random(102)
        for kind, _ in kinds_with_sentences():
            for size in [5, 6, 7]:
                self.check(kind, some_structure(kind, size, chance))

    def test_one_triangle(self):
        kind = ready_kinds()["trianglefree"]
        for points in combinations(range(7), 3):
            structure = structure_of(kind, 7, lambda name, place: int(set(place) <= set(points)))
            self.assertEqual(offending(kind, structure), list(points))

    def test_more_layers_than_are_listed(self):
        kind = Kind(mixed_relations(), [(2, ("not", says("edge", (0, 1), 2)))])
        chance = random.Random(103)
        for size in range(8):
            self.check(kind, some_structure(kind, size, chance))


if __name__ == "__main__":
    unittest.main()
