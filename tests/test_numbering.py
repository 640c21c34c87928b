"""Point 14.1: numbers for all structures of a kind."""

import random
import unittest

from by_hand import every_one_of_kind, paper_by_hand, small_kinds
from definitions import ready_kinds, sample_kinds, some_structure
from oneofeach.census import labelled
from oneofeach.listing import all_structures
from oneofeach.numbering import number_of, structure_at
from oneofeach.papers import Item, Paper, write_up

GRAPHS = ready_kinds()["graphs"]


class NumberingTest(unittest.TestCase):

    def check(self, kind, paper, size):
        """Check all structures of the size, and numbers that no structure has."""
        listed = every_one_of_kind(kind, size)
        for number, structure in enumerate(listed):
            found = number_of(kind, paper, structure)
            self.assertEqual(found, number)
            self.assertIs(type(found), int)
            self.assertEqual(structure_at(kind, paper, size, number), structure)
        for number in [-1, -2, -len(listed), len(listed), len(listed) + 1, 2 * len(listed) + 7, 10 ** 50, -10 ** 50]:
            if number not in range(len(listed)):
                self.assertIsNone(structure_at(kind, paper, size, number))

    def test_own_papers(self):
        for kind, most in small_kinds():
            paper = write_up(kind, most)
            for size in range(most + 1):
                self.check(kind, paper, size)

    def test_papers_by_hand(self):
        chance = random.Random(290)
        for kind, most in small_kinds():
            paper = paper_by_hand(kind, most, chance)
            for size in range(most + 1):
                self.check(kind, paper, size)

    def test_papers_as_long_as_needed(self):
        chance = random.Random(291)
        for size in range(5):
            self.check(GRAPHS, paper_by_hand(GRAPHS, size, chance), size)

    def test_no_points(self):
        for kind in sample_kinds().values():
            paper = Paper([[Item((), [], [])]])
            self.assertEqual(number_of(kind, paper, ()), 0)
            self.assertEqual(structure_at(kind, paper, 0, 0), ())
            for number in [-1, 1, 2, 10 ** 100, -10 ** 100]:
                self.assertIsNone(structure_at(kind, paper, 0, number))

    def test_no_structures(self):
        kind = sample_kinds()["nothing but no points"]
        paper = write_up(kind, 4)
        for size in range(1, 5):
            for number in [-1, 0, 1, 10 ** 20]:
                self.assertIsNone(structure_at(kind, paper, size, number))

    def test_larger_sizes(self):
        chance = random.Random(292)
        for name, size in [("graphs", 6), ("trianglefree", 7), ("tournaments", 6), ("equivalences", 7), ("triples", 5)]:
            kind = ready_kinds()[name]
            paper = write_up(kind, size)
            count = labelled(kind, size)
            for number in [0, count - 1] + [chance.randrange(count) for _ in range(20)]:
                structure = structure_at(kind, paper, size, number)
                self.assertEqual(len(structure), size)
                self.assertEqual(number_of(kind, paper, structure), number)
            self.assertIsNone(structure_at(kind, paper, size, count))
            self.assertIsNone(structure_at(kind, paper, size, -1))

    def test_ascending_order(self):
        kind = ready_kinds()["trianglefree"]
        paper = write_up(kind, 6)
        listed = all_structures(kind, 6)
        for number in range(0, len(listed), 97):
            self.assertEqual(structure_at(kind, paper, 6, number), listed[number])
            self.assertEqual(number_of(kind, paper, listed[number]), number)

    def test_graphs_are_numbers_in_base_two(self):
        chance = random.Random(293)
        paper = write_up(GRAPHS, 6)
        for _ in range(50):
            structure = some_structure(GRAPHS, 6, chance)
            number = 0
            for layer in structure:
                for digit in layer[0]:
                    number = 2 * number + digit
            self.assertEqual(number_of(GRAPHS, paper, structure), number)
            self.assertEqual(structure_at(GRAPHS, paper, 6, number), structure)


if __name__ == "__main__":
    unittest.main()
