"""Points 5.1 and 8.1, and plain_census."""

import unittest

from by_hand import every_one_of_kind, listed_census, small_kinds
from definitions import BLOCK, EDGE, listed_layers, mixed_relations, ready_kinds, sample_kinds, says
from oneofeach.census import census, labelled
from oneofeach.errors import TooManyLayers
from oneofeach.kinds import Kind
from oneofeach.listing import all_structures, first
from oneofeach.obstructions import obstructions
from oneofeach.plain import plain_census

COUNTS = {
    "graphs": [1, 1, 2, 4, 11, 34, 156, 1044],
    "digraphs": [1, 1, 3, 16, 218],
    "tournaments": [1, 1, 1, 2, 4, 12, 56, 456],
    "orders": [1, 1, 2, 5, 16, 63, 318],
    "equivalences": [1, 1, 2, 3, 5, 7, 11, 15],
    "trianglefree": [1, 1, 2, 3, 7, 14, 38, 107],
    "triples": [1, 1, 1, 2, 5, 34],
}
LABELLED = {
    "graphs": [1, 1, 2, 8, 64, 1024, 32768, 2097152],
    "digraphs": [1, 1, 4, 64, 4096],
    "tournaments": [1, 1, 2, 8, 64, 1024, 32768, 2097152],
    "orders": [1, 1, 3, 19, 219, 4231, 130023],
    "equivalences": [1, 1, 2, 5, 15, 52, 203, 877],
    "trianglefree": [1, 1, 2, 7, 41, 388, 5789, 133501],
    "triples": [1, 1, 1, 2, 16, 1024, 1048576],
}


class CensusTest(unittest.TestCase):

    def test_against_all_structures_and_all_renamings(self):
        for kind, most in small_kinds():
            with self.subTest(relations=kind.relations, sentences=kind.sentences):
                expected = listed_census(kind, most)
                for size in range(most + 1):
                    self.assertEqual(census(kind, size), expected[:size + 1])
                    self.assertEqual(plain_census(kind, size), expected[:size + 1])

    def test_known_numbers(self):
        for name, counts in COUNTS.items():
            levels = census(ready_kinds()[name], len(counts) - 1)
            self.assertEqual([len(level) for level in levels], counts, name)
            self.assertTrue(all(level == sorted(set(level)) for level in levels))

    def test_known_numbers_of_the_plain_census(self):
        for name, size in [("graphs", 5), ("tournaments", 5), ("orders", 4), ("equivalences", 6), ("triples", 5)]:
            levels = plain_census(ready_kinds()[name], size)
            self.assertEqual([len(level) for level in levels], COUNTS[name][:size + 1], name)
            self.assertEqual(levels, census(ready_kinds()[name], size))

    def test_size_0(self):
        for kind in sample_kinds().values():
            self.assertEqual(census(kind, 0), [[()]])
            self.assertEqual(plain_census(kind, 0), [[()]])
            self.assertEqual(labelled(kind, 0), 1)

    def test_no_structures_from_some_size_on(self):
        kind = Kind([EDGE], [(3, ("false",))])
        expected = [[()], [(((),),)], [(((),), ((0,),)), (((),), ((1,),))], [], [], [], [], []]
        self.assertEqual(census(kind, 7), expected)
        self.assertEqual(plain_census(kind, 7), expected)
        self.assertEqual([labelled(kind, size) for size in range(8)], [1, 1, 2, 0, 0, 0, 0, 0])
        kind = sample_kinds()["nothing but no points"]
        self.assertEqual(census(kind, 3), [[()], [], [], []])
        self.assertEqual(plain_census(kind, 3), [[()], [], [], []])

    def test_no_relations(self):
        expected = [[((),) * size] for size in range(8)]
        self.assertEqual(census(Kind([], []), 7), expected)
        self.assertEqual(plain_census(Kind([], []), 7), expected)
        self.assertEqual(labelled(Kind([], []), 7), 1)

    def test_many_values(self):
        kind = Kind([("colour", 1, 4096, False)], [])
        self.assertEqual(len(census(kind, 1)[1]), 4096)
        self.assertEqual(labelled(kind, 1), 4096)
        kind = Kind([("colour", 1, 60, True)], [(2, ("same", says("colour", (0,), 59), says("colour", (1,), 59)))])
        self.assertEqual([len(level) for level in census(kind, 2)], [1, 60, 59 * 60 // 2 + 1])
        self.assertEqual(labelled(kind, 2), 59 * 59 + 1)
        self.assertEqual(labelled(kind, 3), 59 ** 3 + 1)


class LabelledTest(unittest.TestCase):

    def test_against_all_structures(self):
        for kind, most in small_kinds():
            for size in range(most + 1):
                with self.subTest(relations=kind.relations, sentences=kind.sentences, size=size):
                    self.assertEqual(labelled(kind, size), len(every_one_of_kind(kind, size)))

    def test_known_numbers(self):
        for name, counts in LABELLED.items():
            self.assertEqual([labelled(ready_kinds()[name], size) for size in range(len(counts))], counts, name)


class TooManyLayersTest(unittest.TestCase):

    def check(self, kind, most, count):
        """Check that only sizes greater than the number of points are refused, with the count."""
        for function in [census, plain_census, labelled, obstructions, all_structures, first]:
            for size in range(8):
                with self.subTest(function=function.__name__, size=size):
                    if size <= most:
                        function(kind, size)
                        continue
                    with self.assertRaises(TooManyLayers) as held:
                        function(kind, size)
                    self.assertEqual(held.exception.count, count)

    def test_the_first_number_of_points_counts(self):
        kind = Kind(mixed_relations(), [(2, ("false",))])
        self.check(kind, 2, len(listed_layers(Kind(mixed_relations(), []), 2)))

    def test_also_if_no_structure_has_so_many_points(self):
        self.check(Kind([("edge", 2, 17, True)], [(1, ("false",))]), 3, 17 ** 3)
        self.check(Kind([("edge", 2, 17, True)], [(3, ("false",))]), 3, 17 ** 3)

    def test_at_the_first_point(self):
        self.check(Kind([("colour", 1, 4097, False)], []), 0, 4097)
        self.check(Kind([("colour", 1, 10 ** 9 - 1, True), ("mark", 1, 10, False)], []), 0, 10 * (10 ** 9 - 1))

    def test_4096_layers_are_not_too_many(self):
        kind = Kind([("edge", 2, 64, True)], [(2, ("false",))])
        self.check(kind, 3, 64 ** 3)
        kind = Kind([("edge", 2, 64, True)], [(2, ("not", says("edge", (0, 1), 5))), (3, ("false",))])
        self.assertEqual([len(level) for level in census(kind, 3)], [1, 1, 63, 0])

    def test_no_relation_speaks_of_few_points(self):
        self.check(Kind([BLOCK], [(3, ("false",))]), 6, 2 ** 15)


if __name__ == "__main__":
    unittest.main()
