"""Point 12.3: kinds that are told by what they forbid."""

import random
import unittest
from itertools import permutations

from by_hand import every_one_of_kind, small_kinds
from definitions import (
    ALIKE, BLOCK, EDGE, belongs, every_structure, mixed_relations, part_on, ready_kinds, sample_kinds, says,
    some_structure,
)
from oneofeach.census import census, labelled
from oneofeach.errors import TooManyLayers
from oneofeach.forbidding import by_obstructions, forbid
from oneofeach.kinds import Kind, read_kind, write_kind
from oneofeach.obstructions import obstructions
from oneofeach.structures import count_layers, is_of_kind

EDGE_ALONE = (((),), ((1,),))
TRIANGLE = (((),), ((1,),), ((1, 1),))
PATH = (((),), ((1,),), ((0, 1),))


def avoids(kind, structure, forbidden):
    """Whether no part is in the class of a forbidden structure."""
    for small in forbidden:
        for points in permutations(range(len(structure)), len(small)):
            if part_on(kind, structure, list(points)) == small:
                return False
    return True


def depth(formula):
    """The depth of a formula, point 0.5."""
    parts = [] if formula[0] == "is" else formula[1:]
    return 1 + max([depth(part) for part in parts], default=0)


def nodes(formula):
    """The number of the nodes of a formula."""
    return 1 + sum(nodes(part) for part in ([] if formula[0] == "is" else formula[1:]))


class ForbidTest(unittest.TestCase):

    def check(self, relations, forbidden, structures):
        """Check which of the structures are of the kind."""
        kind = forbid(relations, forbidden)
        self.assertIs(type(kind), Kind)
        self.assertEqual(kind.relations, relations)
        for structure in structures:
            self.assertIs(belongs(kind, structure), avoids(kind, structure, forbidden))
            self.assertIs(is_of_kind(kind, structure), avoids(kind, structure, forbidden))

    def all_up_to(self, relations, size):
        """All structures of the shape up to a size."""
        return [each for number in range(size + 1) for each in every_structure(Kind(relations, []), number)]

    def test_triangles(self):
        kind = forbid([EDGE], [TRIANGLE])
        for size in range(7):
            self.assertEqual(labelled(kind, size), labelled(ready_kinds()["trianglefree"], size))
        self.assertEqual(census(kind, 6), census(ready_kinds()["trianglefree"], 6))

    def test_equivalences(self):
        path = (((),), ((1,),), ((0, 1),))
        self.assertEqual(census(forbid([ALIKE], [path]), 6), census(ready_kinds()["equivalences"], 6))

    def test_the_class_does_not_matter(self):
        turned = (((),), ((0,),), ((1, 1),))
        self.assertEqual(census(forbid([EDGE], [PATH]), 5), census(forbid([EDGE], [turned]), 5))
        self.check([EDGE], [turned], self.all_up_to([EDGE], 4))

    def test_no_structure_to_forbid(self):
        for relations in [[], [EDGE], mixed_relations()]:
            kind = forbid(relations, [])
            self.assertEqual((kind.relations, kind.sentences), (relations, []))
        self.check([EDGE], [], self.all_up_to([EDGE], 4))

    def test_one_to_four_points(self):
        point, square = (((),),), (((),), ((1,),), ((0, 1),), ((1, 0, 1),))
        structures = self.all_up_to([EDGE], 4)
        for forbidden in [[point], [EDGE_ALONE], [TRIANGLE], [square], [EDGE_ALONE, square], [PATH, square, TRIANGLE]]:
            self.check([EDGE], forbidden, structures)
        chance = random.Random(280)
        self.check([EDGE], [square], [some_structure(Kind([EDGE], []), 5, chance) for _ in range(40)])
        self.check([BLOCK], [(((),), ((),), ((1,),), ((0, 1, 1),))], self.all_up_to([BLOCK], 4))

    def test_one_point(self):
        marks = [("mark", 1, 3, False)]
        self.check(marks, [(((1,),),)], self.all_up_to(marks, 3))
        self.check(marks, [(((0,),),), (((2,),),)], self.all_up_to(marks, 3))
        self.assertEqual([len(level) for level in census(forbid(marks, [(((1,),),)]), 3)], [1, 2, 3, 4])

    def test_relations_with_one_value(self):
        one = [("only", 2, 1, False), ("lone", 1, 1, True)]
        two = (((), (0,)), ((0, 0), (0,)))
        self.check(one, [two], self.all_up_to(one, 4))
        self.check(one, [(((), (0,)),)], self.all_up_to(one, 2))
        self.check(one + [EDGE], [(((), (0,), ()), ((0, 0), (0,), (1,)))], self.all_up_to(one + [EDGE], 3))

    def test_no_relations(self):
        for size in range(1, 5):
            self.check([], [((),) * size], self.all_up_to([], 6))
            self.assertEqual([len(level) for level in census(forbid([], [((),) * size]), 5)],
                             [int(number < size) for number in range(6)])

    def test_many_relations(self):
        chance = random.Random(281)
        relations = mixed_relations()[:4]
        kind = Kind(relations, [])
        forbidden = [some_structure(kind, 1, chance), some_structure(kind, 2, chance)]
        self.check(relations, forbidden, [some_structure(kind, 3, chance) for _ in range(300)])
        found = [avoids(kind, some_structure(kind, 2, chance), forbidden) for _ in range(300)]
        self.assertTrue(50 < found.count(True) < 300)

    def test_thirty_values(self):
        relations = [("turn", 3, 2, False), ("edge", 2, 2, True)]
        kind = Kind(relations, [])
        chance = random.Random(282)
        for _ in range(20):
            small = some_structure(kind, 4, chance)
            self.assertEqual(sum(len(numbers) for layer in small for numbers in layer), 30)
            found = forbid(relations, [small])
            self.assertEqual(len(found.sentences), 1)
            self.assertLessEqual(depth(found.sentences[0][1]), 40)
            self.assertLessEqual(nodes(found.sentences[0][1]), 500)
            self.assertIs(is_of_kind(found, small), False)
            names = tuple(chance.sample(range(4), 4))
            self.assertIs(is_of_kind(found, part_on(kind, small, names)), False)
            other = some_structure(kind, 4, chance)
            self.assertIs(is_of_kind(found, other), avoids(kind, other, [small]))
            self.assertEqual(read_kind(write_kind(found)).sentences, found.sentences)

    def test_a_thousand_structures(self):
        marks = [("mark", 1, 2000, False)]
        kind = forbid(marks, [(((number,),),) for number in range(1000)])
        self.assertEqual(len(kind.sentences), 1000)
        self.assertEqual(census(kind, 1)[1], [(((number,),),) for number in range(1000, 2000)])

    def test_the_same_structure_twice(self):
        self.check([EDGE], [EDGE_ALONE, EDGE_ALONE], self.all_up_to([EDGE], 3))

    def test_lists_are_copied(self):
        relations, forbidden = [EDGE], [TRIANGLE]
        kind = forbid(relations, forbidden)
        self.assertEqual((relations, forbidden), ([EDGE], [TRIANGLE]))
        relations.append(BLOCK)
        self.assertEqual(kind.relations, [EDGE])


class ByObstructionsTest(unittest.TestCase):

    def test_the_same_structures(self):
        kinds = [kind for kind, _ in small_kinds() if count_layers(kind, 3) <= 4096]
        self.assertGreater(len(kinds), 12)
        for kind in kinds:
            found = by_obstructions(kind)
            self.assertIs(type(found), Kind)
            self.assertFalse(found is kind)
            self.assertEqual(found.relations, kind.relations)
            for size in range(4):
                self.assertEqual(every_one_of_kind(found, size), every_one_of_kind(kind, size))

    def test_more_points(self):
        for name in ["trianglefree", "equivalences", "tournaments", "orders", "graphs"]:
            kind = ready_kinds()[name]
            self.assertEqual(census(by_obstructions(kind), 5), census(kind, 5))

    def test_kinds_without_sentences(self):
        self.assertEqual(by_obstructions(ready_kinds()["graphs"]).sentences, [])
        self.assertEqual(by_obstructions(Kind([], [])).sentences, [])

    def test_sentences_of_four_variables(self):
        formula = ("not", ("and", says("edge", (0, 1), 1), says("edge", (2, 3), 1)))
        kind = Kind([EDGE], [(4, formula), (2, ("true",))])
        self.assertTrue(obstructions(kind, 4)[4])
        self.assertEqual(census(by_obstructions(kind), 5), census(kind, 5))

    def test_no_structures_but_the_empty_one(self):
        for relations in [[], [EDGE], [("mark", 1, 3, False)]]:
            kind = by_obstructions(Kind(relations, [(1, ("false",))]))
            self.assertEqual([len(level) for level in census(kind, 3)], [1, 0, 0, 0])

    def test_fields_are_new(self):
        kind = sample_kinds()["coloured graphs"]
        before = (list(kind.relations), list(kind.sentences))
        found = by_obstructions(kind)
        found.relations.clear()
        found.sentences.clear()
        self.assertEqual((kind.relations, kind.sentences), before)
        self.assertEqual(by_obstructions(kind).relations, before[0])

    def test_too_many_layers(self):
        for sentences in [[], [(1, ("false",))], [(2, ("true",))]]:
            for relations, count in [
                ([("mark", 1, 4097, False)], 4097),
                ([("mark", 1, 5, False), ("arc", 2, 29, False)], 5 * 29 ** 2),
                ([("edge", 2, 65, True)], 65 ** 2),
                ([("turn", 3, 2, False)], 2 ** 18),
                ([("edge", 2, 17, True)], 17 ** 3),
            ]:
                with self.assertRaises(TooManyLayers) as held:
                    by_obstructions(Kind(relations, sentences))
                self.assertEqual(held.exception.count, count)

    def test_as_many_layers_as_there_may_be(self):
        # With 16 values there are 4096 layers at point 3, and at point 4 more, which do not count.
        kind = Kind([("edge", 2, 16, True)], [(2, says("edge", (0, 1), 15))])
        found = by_obstructions(kind)
        self.assertEqual(len(found.sentences), 15)
        self.assertIs(is_of_kind(found, (((),), ((15,),))), True)
        self.assertIs(is_of_kind(found, (((),), ((14,),))), False)


if __name__ == "__main__":
    unittest.main()
