"""Point 2.5: count_layers, layers and extensions."""

import random
import unittest

from definitions import (
    ARC, BLOCK, EDGE, belongs, every_structure, listed_layers, mixed_relations, ready_kinds, sample_kinds,
    some_formula,
)
from oneofeach.errors import CensusError, TooManyLayers
from oneofeach.kinds import Kind
from oneofeach.structures import count_layers, extensions, layers

TURN = ("turn", 3, 10 ** 9 - 1, False)


def coloured(number, sentences):
    """The kind of points with so many colours."""
    return Kind([("colour", 1, number, False)], sentences)


class CountTest(unittest.TestCase):

    def test_graphs_and_digraphs(self):
        for point in range(7):
            self.assertEqual(count_layers(Kind([EDGE], []), point), 2 ** point)
            self.assertEqual(count_layers(Kind([ARC], []), point), 4 ** point)
            self.assertEqual(count_layers(Kind([BLOCK], []), point), 2 ** (point * (point - 1) // 2))
            self.assertEqual(count_layers(Kind([EDGE, ARC], []), point), 8 ** point)

    def test_sentences_do_not_matter(self):
        for point in range(7):
            self.assertEqual(count_layers(Kind([EDGE], [(1, ("false",))]), point), 2 ** point)

    def test_no_relations_and_one_value(self):
        for point in range(7):
            self.assertEqual(count_layers(Kind([], []), point), 1)
            self.assertEqual(count_layers(Kind([("only", 3, 1, False)], []), point), 1)

    def test_arity_one(self):
        for point in range(7):
            for symmetric in (True, False):
                self.assertEqual(count_layers(Kind([("colour", 1, 5, symmetric)], []), point), 5)

    def test_very_great_numbers(self):
        turns = Kind([TURN], [])
        self.assertEqual(count_layers(turns, 1), 1)
        self.assertEqual(count_layers(turns, 2), (10 ** 9 - 1) ** 6)
        self.assertEqual(count_layers(turns, 6), (10 ** 9 - 1) ** 90)
        many = Kind([(name,) + TURN[1:] for name in "abcd"], [])
        self.assertEqual(count_layers(many, 6), (10 ** 9 - 1) ** 360)


class LayersTest(unittest.TestCase):

    def refuse(self, count, function, *arguments):
        with self.assertRaises(TooManyLayers) as held:
            function(*arguments)
        self.assertEqual(held.exception.count, count)
        self.assertIsInstance(held.exception, CensusError)
        self.assertIsInstance(held.exception, ValueError)

    def test_against_the_definition(self):
        for name, kind in sample_kinds().items():
            for point in range(7):
                with self.subTest(kind=name, point=point):
                    if count_layers(kind, point) <= 4096:
                        found = layers(kind, point)
                        self.assertIs(type(found), list)
                        self.assertEqual(found, listed_layers(kind, point))
                        self.assertEqual(len(found), count_layers(kind, point))

    def test_ascending_order(self):
        kind = Kind([EDGE, ("colour", 1, 2, False)], [])
        self.assertEqual(layers(kind, 0), [((), (0,)), ((), (1,))])
        self.assertEqual(layers(kind, 1), [((0,), (0,)), ((0,), (1,)), ((1,), (0,)), ((1,), (1,))])
        self.assertEqual(layers(Kind([EDGE], []), 2), [((0, 0),), ((0, 1),), ((1, 0),), ((1, 1),)])

    def test_no_relations_and_one_value(self):
        for point in range(7):
            self.assertEqual(layers(Kind([], []), point), [()])
            self.assertEqual(layers(Kind([("only", 1, 1, True)], []), point), [((0,),)])

    def test_limit(self):
        self.assertEqual(layers(coloured(4096, []), 0), [((number,),) for number in range(4096)])
        self.assertEqual(len(layers(Kind([ARC], []), 6)), 4096)
        for point in range(7):
            self.refuse(4097, layers, coloured(4097, []), point)
        self.refuse(17 * 241, layers, Kind([("a", 1, 17, True), ("b", 1, 241, False)], []), 3)
        self.refuse(2 ** 15, layers, Kind([BLOCK], []), 6)

    def test_very_great_numbers(self):
        self.refuse((10 ** 9 - 1) ** 90, layers, Kind([TURN], []), 6)
        many = Kind([(name,) + TURN[1:] for name in "abcd"], [])
        self.refuse((10 ** 9 - 1) ** 360, layers, many, 6)

    def test_lists_are_new(self):
        kind = Kind([EDGE], [])
        layers(kind, 2).clear()
        self.assertEqual(len(layers(kind, 2)), 4)
        layers(kind, 1).append(0)
        self.assertEqual(layers(kind, 1), [((0,),), ((1,),)])

    def test_extensions_with_too_many_layers(self):
        self.refuse(4097, extensions, coloured(4097, []), ())
        self.refuse(4097, extensions, coloured(4097, []), (((4096,),),))
        # The error is raised even where the sentences leave few layers or none.
        self.refuse(4097, extensions, coloured(4097, [(1, ("false",))]), ())
        self.refuse(4097, extensions, coloured(4097, [(1, ("is", "colour", (0,), 5))]), ())
        self.refuse((10 ** 9 - 1) ** 6, extensions, Kind([TURN], [(3, ("is", "turn", (0, 1, 2), 0))]), (((),), ((),)))

    def test_extensions_at_the_limit(self):
        self.assertEqual(len(extensions(coloured(4096, []), ())), 4096)
        kind = coloured(4096, [(2, ("implies", ("is", "colour", (0,), 7), ("not", ("is", "colour", (1,), 7))))])
        self.assertEqual(extensions(kind, ()), [((number,),) for number in range(4096)])
        self.assertEqual(extensions(kind, (((7,),),)), [((number,),) for number in range(4096) if number != 7])


class ExtensionsTest(unittest.TestCase):

    def check(self, kind, structure, listed):
        found = extensions(kind, structure)
        self.assertIs(type(found), list)
        self.assertEqual(found, [layer for layer in listed if belongs(kind, structure + (layer,))])
        return found

    def grow(self, kind, size, most):
        """Check the extensions of structures of the kind, at most so many of each size."""
        structures = [()]
        for point in range(size):
            if count_layers(kind, point) > 512:
                return
            listed = listed_layers(kind, point)
            grown = []
            for structure in structures:
                grown.extend(structure + (layer,) for layer in self.check(kind, structure, listed))
            structures = grown[::len(grown) // most + 1]

    def test_against_the_definition(self):
        for name, kind in sample_kinds().items():
            with self.subTest(kind=name):
                self.grow(kind, 5, 12)

    def test_random_sentences(self):
        chance = random.Random(13)
        for _ in range(150):
            relations = chance.sample(mixed_relations(), chance.randrange(4))
            sentences = []
            for _ in range(chance.randrange(1, 3)):
                count = chance.randrange(1, 5)
                sentences.append((count, some_formula(relations, count, 5, chance)))
            with self.subTest(relations=relations, sentences=sentences):
                self.grow(Kind(relations, sentences), 4, 3)

    def test_every_structure_is_made_once(self):
        kind = ready_kinds()["orders"]
        grown = [()]
        for point in range(3):
            grown = [structure + (layer,) for structure in grown for layer in extensions(kind, structure)]
        self.assertEqual(grown, [each for each in every_structure(kind, 3) if belongs(kind, each)])

    def test_examples(self):
        kinds = ready_kinds()
        self.assertEqual(extensions(kinds["tournaments"], ()), [((),)])
        self.assertEqual(extensions(kinds["tournaments"], (((),),)), [((0, 1),), ((1, 0),)])
        self.assertEqual(extensions(kinds["trianglefree"], (((),), ((1,),))), [((0, 0),), ((0, 1),), ((1, 0),)])
        self.assertEqual(extensions(kinds["equivalences"], (((),), ((1,),))), [((0, 0),), ((1, 1),)])

    def test_numbers(self):
        numbers = [1]
        structures = [()]
        for point in range(5):
            structures = [each + (layer,) for each in structures for layer in extensions(ready_kinds()["orders"], each)]
            numbers.append(len(structures))
        self.assertEqual(numbers, [1, 1, 3, 19, 219, 4231])

    def test_six_points(self):
        empty = tuple(((0,) * (2 * point),) for point in range(6))
        found = extensions(ready_kinds()["orders"], empty)
        self.assertEqual(len(found), 2 * 2 ** 6 - 1)
        self.assertEqual(found, sorted(found))
        chain = tuple(((1,) * point + (0,) * point,) for point in range(6))
        self.assertEqual(len(extensions(ready_kinds()["orders"], chain)), 28)

    def test_no_extensions(self):
        for count in (1, 2, 3, 4):
            kind = Kind([EDGE], [(count, ("false",))])
            structure = ()
            for point in range(count):
                found = extensions(kind, structure)
                self.assertEqual(len(found), 0 if point == count - 1 else 2 ** point)
                structure += (((0,) * point,),)

    def test_formulas_about_old_points_only(self):
        kind = Kind([EDGE], [(3, ("is", "edge", (0, 1), 1))])
        self.assertEqual(extensions(kind, (((),), ((1,),))), [((1, 1),)])
        self.assertEqual(extensions(kind, (((),), ((0,),))), [])

    def test_values_that_a_relation_does_not_have(self):
        kind = Kind([EDGE], [(2, ("is", "edge", (0, 1), 2))])
        self.assertEqual(extensions(kind, ()), [((),)])
        self.assertEqual(extensions(kind, (((),),)), [])
        kind = Kind([EDGE], [(2, ("not", ("is", "edge", (0, 1), 2)))])
        self.assertEqual(extensions(kind, (((),),)), [((0,),), ((1,),)])

    def test_lists_are_new_and_fields_stay(self):
        kind = ready_kinds()["equivalences"]
        fields = (list(kind.relations), list(kind.sentences))
        extensions(kind, (((),), ((1,),))).clear()
        self.assertEqual(extensions(kind, (((),), ((1,),))), [((0, 0),), ((1, 1),)])
        self.assertEqual((kind.relations, kind.sentences), fields)


if __name__ == "__main__":
    unittest.main()
