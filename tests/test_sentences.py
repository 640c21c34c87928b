"""The function atoms_of of oneofeach/sentences.py."""

import unittest

from definitions import says
from oneofeach.sentences import atoms_of


class AtomsTest(unittest.TestCase):

    def test_an_atom_alone(self):
        self.assertEqual(atoms_of(says("edge", (0, 1), 1)), [says("edge", (0, 1), 1)])

    def test_no_atoms(self):
        self.assertEqual(atoms_of(("true",)), [])
        self.assertEqual(atoms_of(("not", ("false",))), [])

    def test_first_part_before_second_part_with_duplicates(self):
        a, b, c = says("edge", (0, 1), 1), says("colour", (0,), 2), says("block", (2, 1, 0), 0)
        for head in ("and", "or", "implies", "same"):
            with self.subTest(head=head):
                formula = (head, (head, b, ("not", a)), (head, ("true",), (head, c, b)))
                self.assertEqual(atoms_of(formula), [b, a, c, b])

    def test_relations_called_like_formulas(self):
        self.assertEqual(atoms_of(says("is", (0,), 0)), [says("is", (0,), 0)])

    def test_deep_formulas(self):
        formula = says("edge", (0, 1), 1)
        for _ in range(45):
            formula = ("not", formula)
        self.assertEqual(atoms_of(formula), [says("edge", (0, 1), 1)])

    def test_lists_are_new(self):
        atom = says("edge", (0, 1), 1)
        atoms_of(atom).clear()
        self.assertEqual(atoms_of(atom), [atom])


if __name__ == "__main__":
    unittest.main()
