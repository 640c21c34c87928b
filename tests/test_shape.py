"""Points 2.2 and 2.4: has_shape and is_of_kind."""

import random
import unittest

from definitions import (
    ALIKE, ARC, BELOW, EDGE, belongs, every_structure, mixed_relations, part_on, ready_kinds, sample_kinds,
    some_formula, some_structure, with_shape,
)
from oneofeach.kinds import Kind
from oneofeach.structures import has_shape, is_of_kind


def changed_tuples(structure):
    """Tuples that differ a little from the structure, at each depth."""
    found = []
    for at in range(len(structure)):
        head, tail = structure[:at], structure[at + 1:]
        found.append(head + tail)
        found.append(head + (structure[at], structure[at]) + tail)
        if type(structure[at]) is int:
            changed = [-1, structure[at] + 1, 10 ** 30, (), (structure[at],), ((),)]
        else:
            changed = [0, 1, (), ((),), (0,), (structure[at],)] + changed_tuples(structure[at])
        found.extend(head + (item,) + tail for item in changed)
    return found + [structure + item for item in [(0,), ((),), (((),),), ((0,),), (((0,),),)]]


class ShapeTest(unittest.TestCase):

    def check(self, kind, structure):
        shaped, of_kind = has_shape(kind, structure), is_of_kind(kind, structure)
        self.assertIs(shaped, with_shape(kind, structure), structure)
        self.assertIs(of_kind, belongs(kind, structure), structure)

    def test_tuples_of_the_shape(self):
        chance = random.Random(1)
        for name, kind in sample_kinds().items():
            for size in range(8):
                with self.subTest(kind=name, size=size):
                    structure = some_structure(kind, size, chance)
                    self.assertIs(has_shape(kind, structure), True)
                    self.assertIs(is_of_kind(kind, structure), belongs(kind, structure))

    def test_tuples_that_differ_a_little(self):
        chance = random.Random(2)
        for name, kind in sample_kinds().items():
            for size in range(4):
                with self.subTest(kind=name, size=size):
                    for other in changed_tuples(some_structure(kind, size, chance)):
                        self.check(kind, other)

    def test_values(self):
        kind = Kind([("colour", 1, 3, False), EDGE], [])
        self.assertIs(has_shape(kind, (((2,), ()), ((0,), (1,)))), True)
        for wrong in (3, -1, 10 ** 9, (0,), ()):
            self.assertIs(has_shape(kind, (((wrong,), ()), ((0,), (1,)))), False)
        for wrong in (2, -1, (1,)):
            self.assertIs(has_shape(kind, (((2,), ()), ((0,), (wrong,)))), False)
            self.assertIs(is_of_kind(kind, (((2,), ()), ((0,), (wrong,)))), False)

    def test_left_out_or_added(self):
        kind = Kind([ARC, EDGE], [])
        self.assertIs(has_shape(kind, (((), ()), ((0, 1), (1,)))), True)
        wrong = [
            (((), ()), ((0,), (1,))), (((), ()), ((0, 1, 0), (1,))), (((), ()), ((0, 1), ())),
            (((), ()), ((0, 1),)), (((), ()), ((0, 1), (1,), ())), (((), ()), ()), (((), ()), (0, 1, 1)),
            (((),), ((0, 1), (1,))), (((), (), ()), ((0, 1), (1,))), (((0, 1), (1,)),),
            ((), ((0, 1), (1,))), (0, ((0, 1), (1,))), (((), ()), 1), ((0, 0), ((0, 1), (1,))),
        ]
        for structure in wrong:
            self.assertIs(has_shape(kind, structure), False, structure)
            self.assertIs(is_of_kind(kind, structure), False, structure)

    def test_order_of_relations(self):
        self.assertIs(has_shape(Kind([ARC, EDGE], []), (((), ()), ((0, 1), (1,)))), True)
        self.assertIs(has_shape(Kind([EDGE, ARC], []), (((), ()), ((0, 1), (1,)))), False)

    def test_empty_tuple(self):
        for name, kind in sample_kinds().items():
            self.assertIs(has_shape(kind, ()), True, name)
            self.assertIs(is_of_kind(kind, ()), True, name)

    def test_kinds_without_relations(self):
        bare = Kind([], [])
        for size in range(8):
            self.assertIs(has_shape(bare, ((),) * size), True)
            self.assertIs(is_of_kind(bare, ((),) * size), True)
        for wrong in [(0,), (((),),), ((), 1), ((), ((),)), ((), (), (0,))]:
            self.assertIs(has_shape(bare, wrong), False, wrong)
            self.assertIs(is_of_kind(bare, wrong), False, wrong)
        for count in (1, 2, 3, 4):
            kind = Kind([], [(count, ("false",))])
            for size in range(8):
                self.assertIs(has_shape(kind, ((),) * size), True)
                self.assertIs(is_of_kind(kind, ((),) * size), size < count)

    def test_deep_tuples(self):
        deep = ()
        for _ in range(50):
            deep = (deep,)
        for kind in sample_kinds().values():
            self.assertIs(has_shape(kind, (deep,)), False)
            self.assertIs(is_of_kind(kind, (deep, 0, deep)), False)

    def test_sentences_that_hold_and_that_do_not(self):
        kinds = ready_kinds()
        path, triangle = (((),), ((1,),), ((0, 1),)), (((),), ((1,),), ((1, 1),))
        self.assertIs(is_of_kind(kinds["trianglefree"], path), True)
        self.assertIs(is_of_kind(kinds["trianglefree"], triangle), False)
        self.assertIs(is_of_kind(kinds["equivalences"], path), False)
        self.assertIs(is_of_kind(kinds["equivalences"], triangle), True)
        self.assertIs(is_of_kind(kinds["tournaments"], (((),), ((0, 1),))), True)
        self.assertIs(is_of_kind(kinds["tournaments"], (((),), ((1, 1),))), False)
        self.assertIs(is_of_kind(kinds["tournaments"], (((),), ((0, 0),))), False)

    def test_second_sentence(self):
        kind = Kind([BELOW], [(1, ("true",)), (2, ("is", "below", (0, 1), 0))])
        self.assertIs(is_of_kind(kind, (((),), ((0, 0),))), True)
        self.assertIs(is_of_kind(kind, (((),), ((0, 1),))), False)

    def test_numbers_of_structures(self):
        numbers = {
            "graphs": [1, 1, 2, 8, 64], "digraphs": [1, 1, 4, 64], "tournaments": [1, 1, 2, 8],
            "orders": [1, 1, 3, 19], "equivalences": [1, 1, 2, 5, 15], "trianglefree": [1, 1, 2, 7, 41],
            "triples": [1, 1, 1, 2, 16],
        }
        for name, kind in ready_kinds().items():
            for size, number in enumerate(numbers[name]):
                with self.subTest(kind=name, size=size):
                    found = [each for each in every_structure(kind, size) if is_of_kind(kind, each)]
                    self.assertEqual(len(found), number)

    def test_parts_of_structures_of_the_kind_are_of_the_kind(self):
        for name in ("orders", "equivalences", "trianglefree"):
            kind = ready_kinds()[name]
            for structure in every_structure(kind, 3):
                if is_of_kind(kind, structure):
                    for points in ([], [2], [2, 0], [1, 2], [2, 0, 1]):
                        self.assertIs(is_of_kind(kind, part_on(kind, structure, points)), True)

    def test_random_sentences(self):
        chance = random.Random(3)
        for _ in range(150):
            relations = chance.sample(mixed_relations(), chance.randrange(4))
            sentences = []
            for _ in range(chance.randrange(3)):
                count = chance.randrange(1, 5)
                sentences.append((count, some_formula(relations, count, 4, chance)))
            kind = Kind(relations, sentences)
            for size in range(5):
                self.check(kind, some_structure(kind, size, chance))

    def test_fields_stay_as_they_were(self):
        kind = Kind([ALIKE], ready_kinds()["equivalences"].sentences)
        sentences = list(kind.sentences)
        is_of_kind(kind, (((),), ((1,),), ((0, 1),)))
        self.assertEqual((kind.relations, kind.sentences), ([ALIKE], sentences))


if __name__ == "__main__":
    unittest.main()
