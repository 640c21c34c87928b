"""Points 3.1 and 3.2."""

import random
import unittest
from itertools import permutations, product

from definitions import ARC, EDGE, every_structure, listed_values, renamed_by, sample_kinds, some_structure
from oneofeach.kinds import Kind
from oneofeach.renamings import followed, inverted, is_renaming, is_symmetry, renamed
from oneofeach.structures import has_shape


def some_renaming(size, chance):
    """A renaming of so many points."""
    return tuple(chance.sample(range(size), size))


class IsRenamingTest(unittest.TestCase):

    def test_small_tuples(self):
        for size in range(5):
            right = set(permutations(range(size)))
            for length in range(5):
                for names in product(range(-1, 5), repeat=length):
                    self.assertIs(is_renaming(names, size), names in right, (names, size))

    def test_all_sizes(self):
        chance = random.Random(14)
        for size in range(8):
            names = some_renaming(size, chance)
            with self.subTest(names=names):
                for other in range(8):
                    self.assertIs(is_renaming(names, other), size == other)
                self.assertIs(is_renaming(names + (size,), size), False)
                self.assertIs(is_renaming(names + (size,), size + 1), True)

    def test_wrong_names(self):
        for size in range(1, 8):
            names = tuple(range(size))
            for at in range(size):
                for wrong in (-1, at - size, size, size + 1, 10 ** 30, -10 ** 30, (at + 1) % size):
                    changed = names[:at] + (wrong,) + names[at + 1:]
                    self.assertIs(is_renaming(changed, size), changed == names, changed)

    def test_too_short_and_too_long(self):
        for size in range(1, 8):
            names = tuple(range(size))
            self.assertIs(is_renaming(names[:-1], size), False)
            self.assertIs(is_renaming(names[1:], size), False)
            self.assertIs(is_renaming(names + (0,), size), False)
            self.assertIs(is_renaming((0,) + names, size), False)
            self.assertIs(is_renaming((), size), False)
        self.assertIs(is_renaming((), 0), True)
        self.assertIs(is_renaming((0,), 0), False)


class RenamingsTest(unittest.TestCase):

    def test_inverted(self):
        self.assertEqual(inverted((1, 2, 0)), (2, 0, 1))
        self.assertEqual(inverted(()), ())
        for size in range(6):
            for names in permutations(range(size)):
                back = inverted(names)
                self.assertIs(type(back), tuple)
                self.assertEqual([back[name] for name in names], list(range(size)))
        self.assertEqual(inverted((6, 0, 1, 2, 3, 4, 5)), (1, 2, 3, 4, 5, 6, 0))

    def test_followed(self):
        self.assertEqual(followed((1, 2, 0), (0, 2, 1)), (2, 1, 0))
        self.assertEqual(followed((0, 2, 1), (1, 2, 0)), (1, 0, 2))
        self.assertEqual(followed((), ()), ())
        for size in range(5):
            for first, second in product(permutations(range(size)), repeat=2):
                both = followed(first, second)
                self.assertIs(type(both), tuple)
                self.assertEqual(both, tuple(second[first[point]] for point in range(size)))
                self.assertEqual(inverted(both), followed(inverted(second), inverted(first)))

    def test_renamed_against_the_definition(self):
        chance = random.Random(15)
        for name, kind in sample_kinds().items():
            for size in range(8):
                structure, names = some_structure(kind, size, chance), some_renaming(size, chance)
                with self.subTest(kind=name, structure=structure, names=names):
                    found = renamed(kind, structure, names)
                    self.assertEqual(found, renamed_by(kind, structure, names))
                    self.assertIs(has_shape(kind, found), True)

    def test_values_of_the_new_names(self):
        kind = Kind([ARC], [])
        structure = (((),), ((1, 0),), ((0, 0, 0, 0),))
        self.assertEqual(renamed(kind, structure, (1, 2, 0)), (((),), ((0, 0),), ((0, 1, 0, 0),)))
        for names in permutations(range(3)):
            table = listed_values(kind, renamed(kind, structure, names))["arc"]
            self.assertEqual([pair for pair in table if table[pair] == 1], [(names[0], names[1])])

    def test_no_points(self):
        for kind in sample_kinds().values():
            self.assertEqual(renamed(kind, (), ()), ())
            self.assertIs(is_symmetry(kind, (), ()), True)

    def test_renaming_twice(self):
        chance = random.Random(16)
        for name, kind in sample_kinds().items():
            for size in range(7):
                structure = some_structure(kind, size, chance)
                first, second = some_renaming(size, chance), some_renaming(size, chance)
                with self.subTest(kind=name, structure=structure, first=first, second=second):
                    once = renamed(kind, structure, first)
                    self.assertEqual(renamed(kind, once, second), renamed(kind, structure, followed(first, second)))
                    self.assertEqual(renamed(kind, once, inverted(first)), structure)
                    self.assertEqual(renamed(kind, structure, tuple(range(size))), structure)

    def test_is_symmetry_against_the_definition(self):
        for kind in [Kind([EDGE], []), Kind([ARC], []), Kind([("colour", 1, 2, True), EDGE], [])]:
            for size in range(4):
                for structure in every_structure(kind, size):
                    for names in permutations(range(size)):
                        expected = renamed_by(kind, structure, names) == structure
                        self.assertIs(is_symmetry(kind, structure, names), expected)

    def test_numbers_of_symmetries(self):
        kind = Kind([EDGE], [])
        path = (((),), ((1,),), ((0, 1),), ((0, 0, 1),))
        square = (((),), ((1,),), ((0, 1),), ((1, 0, 1),))
        complete = (((),), ((1,),), ((1, 1),), ((1, 1, 1),))
        for structure, number in [(path, 2), (square, 8), (complete, 24)]:
            found = [names for names in permutations(range(4)) if is_symmetry(kind, structure, names)]
            self.assertEqual(len(found), number)

    def test_a_turn_keeps_a_circle_of_arcs(self):
        kind = Kind([ARC], [])
        circle = (((),), ((1, 0),), ((0, 1, 1, 0),))
        found = [names for names in permutations(range(3)) if is_symmetry(kind, circle, names)]
        self.assertEqual(found, [(0, 1, 2), (1, 2, 0), (2, 0, 1)])


if __name__ == "__main__":
    unittest.main()
