"""Points 7.1 to 7.3."""

import random
import unittest

from by_hand import (
    in_one_class, is_accepted, number_in, paper_by_hand, parts_without_one, small_kinds,
)
from definitions import belongs, every_structure, ready_kinds, renamed_by, some_structure
from oneofeach.least import is_least
from oneofeach.papers import Item, Paper
from oneofeach.walks import deck, find, same


def papers(seed):
    """Triples of a kind, an accepted paper and its last size."""
    chance = random.Random(seed)
    return [(kind, paper_by_hand(kind, size, chance), size) for kind, size in small_kinds()]


def samples(kind, size, chance):
    """At most 60 structures of the shape with so many points."""
    found = every_structure(kind, size)
    return found if len(found) <= 60 else chance.sample(found, 60)


class PapersByHandTest(unittest.TestCase):

    def test_they_are_accepted(self):
        for kind, paper, size in papers(110):
            with self.subTest(relations=kind.relations, sentences=kind.sentences):
                self.assertTrue(is_accepted(kind, paper))
                self.assertEqual(len(paper.levels), size + 1)

    def test_they_are_not_like_the_own_ones(self):
        for kind, paper, size in papers(111)[:3]:
            level = [item.structure for item in paper.levels[-1]]
            self.assertNotEqual(level, sorted(level))
            self.assertFalse(all(is_least(kind, structure) for structure in level))
            last = [item for level in paper.levels for item in level]
            self.assertTrue(any(step[2] != tuple(range(len(step[2]))) for item in last for step in item.steps))


class FindTest(unittest.TestCase):

    def check(self, kind, paper, structure):
        """Check an answer by point 7.1."""
        found = find(kind, paper, structure)
        if not belongs(kind, structure):
            self.assertIsNone(found)
            return
        self.assertIs(type(found), tuple)
        number, names = found
        self.assertEqual(number, number_in(kind, paper, structure))
        self.assertIs(type(names), tuple)
        listed = paper.levels[len(structure)][number].structure
        self.assertEqual(renamed_by(kind, structure, names), listed)

    def test_structures_of_the_shape(self):
        chance = random.Random(112)
        for kind, paper, most in papers(113):
            for size in range(most + 1):
                for structure in samples(kind, size, chance):
                    with self.subTest(relations=kind.relations, structure=structure):
                        self.check(kind, paper, structure)

    def test_the_listed_structures(self):
        for kind, paper, most in papers(114):
            for level in paper.levels:
                for number, item in enumerate(level):
                    found, names = find(kind, paper, item.structure)
                    self.assertEqual(found, number)
                    self.assertEqual(renamed_by(kind, item.structure, names), item.structure)

    def test_no_points(self):
        for kind, paper, _ in papers(115):
            self.assertEqual(find(kind, paper, ()), (0, ()))

    def test_a_paper_of_one_list(self):
        paper = Paper([[Item((), [], [])]])
        self.assertEqual(find(ready_kinds()["graphs"], paper, ()), (0, ()))

    def test_structures_that_are_not_of_the_kind(self):
        chance = random.Random(116)
        for name in ["tournaments", "orders", "equivalences", "trianglefree"]:
            kind = ready_kinds()[name]
            paper = paper_by_hand(kind, 4, chance)
            wrong = [each for each in every_structure(kind, 3) if not belongs(kind, each)]
            for structure in wrong:
                self.assertIsNone(find(kind, paper, structure))

    def test_papers_that_go_further(self):
        kind = ready_kinds()["graphs"]
        paper = paper_by_hand(kind, 5, random.Random(117))
        chance = random.Random(118)
        for size in range(6):
            for _ in range(10):
                self.check(kind, paper, some_structure(kind, size, chance))


class SameTest(unittest.TestCase):

    def test_pairs(self):
        chance = random.Random(119)
        for kind, paper, most in papers(120):
            for size in range(most + 1):
                listed = [each for each in samples(kind, size, chance) if belongs(kind, each)][:12]
                for one in listed:
                    for other in listed:
                        self.check(kind, paper, one, other)

    def check(self, kind, paper, one, other):
        """Check an answer by point 7.2."""
        names = same(kind, paper, one, other)
        if in_one_class(kind, one, other):
            self.assertIs(type(names), tuple)
            self.assertEqual(renamed_by(kind, one, names), other)
        else:
            self.assertIsNone(names)

    def test_renamed_structures(self):
        chance = random.Random(121)
        kind = ready_kinds()["graphs"]
        paper = paper_by_hand(kind, 5, chance)
        for _ in range(40):
            one = some_structure(kind, 5, chance)
            other = renamed_by(kind, one, tuple(chance.sample(range(5), 5)))
            self.assertEqual(renamed_by(kind, one, same(kind, paper, one, other)), other)

    def test_different_numbers_of_points_whatever_the_paper(self):
        kind = ready_kinds()["graphs"]
        chance = random.Random(122)
        structure = some_structure(kind, 7, chance)
        for paper in [Paper([[Item((), [], [])]]), paper_by_hand(kind, 3, chance)]:
            for size in range(7):
                self.assertIsNone(same(kind, paper, structure, structure[:size]))
                self.assertIsNone(same(kind, paper, structure[:size], structure))

    def test_no_points(self):
        for kind, paper, _ in papers(123):
            self.assertEqual(same(kind, paper, (), ()), ())


class DeckTest(unittest.TestCase):

    def test_against_the_parts(self):
        chance = random.Random(124)
        for kind, paper, most in papers(125):
            for size in range(1, most + 1):
                for structure in samples(kind, size, chance):
                    if belongs(kind, structure):
                        parts = parts_without_one(kind, structure)
                        found = deck(kind, paper, structure)
                        self.assertIs(type(found), list)
                        self.assertEqual(found, sorted(number_in(kind, paper, each) for each in parts))

    def test_the_paper_goes_up_to_the_parts_only(self):
        chance = random.Random(126)
        kind = ready_kinds()["graphs"]
        paper = paper_by_hand(kind, 4, chance)
        for _ in range(10):
            structure = some_structure(kind, 5, chance)
            parts = parts_without_one(kind, structure)
            self.assertEqual(deck(kind, paper, structure), sorted(number_in(kind, paper, each) for each in parts))
        paper = Paper([[Item((), [], [])]])
        self.assertEqual(deck(kind, paper, (((),),)), [0])

    def test_duplicates_stay(self):
        kind = ready_kinds()["graphs"]
        paper = paper_by_hand(kind, 3, random.Random(127))
        complete = (((),), ((1,),), ((1, 1),), ((1, 1, 1),))
        number = number_in(kind, paper, complete[:3])
        self.assertEqual(deck(kind, paper, complete), [number] * 4)


if __name__ == "__main__":
    unittest.main()
