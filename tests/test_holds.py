"""Points 1.1 to 1.3: when a sentence holds."""

import random
import unittest
from itertools import product

from definitions import EDGE, every_structure, mixed_relations, satisfies, says, some_formula, some_structure
from oneofeach.kinds import Kind
from oneofeach.structures import holds

COLOURS = [("a", 1, 2, False), ("b", 1, 2, False)]
A, B = says("a", (0,), 1), says("b", (0,), 1)


class HoldsTest(unittest.TestCase):

    def test_every_form_of_formula(self):
        kind = Kind(COLOURS, [])
        table = {
            ("true",): [True, True, True, True],
            ("false",): [False, False, False, False],
            A: [False, False, True, True],
            ("not", A): [True, True, False, False],
            ("and", A, B): [False, False, False, True],
            ("or", A, B): [False, True, True, True],
            ("implies", A, B): [True, True, False, True],
            ("same", A, B): [True, False, False, True],
        }
        for formula, answers in table.items():
            for (a, b), answer in zip(product((0, 1), repeat=2), answers):
                with self.subTest(formula=formula, a=a, b=b):
                    self.assertIs(holds(kind, (((a,), (b,)),), (1, formula)), answer)

    def test_fixed_parts(self):
        kind = Kind(COLOURS, [])
        for head in ("and", "or", "implies", "same"):
            for first, second in product([("true",), ("false",), A, B], repeat=2):
                for a, b in product((0, 1), repeat=2):
                    structure, sentence = (((a,), (b,)),), (1, (head, first, second))
                    self.assertIs(holds(kind, structure, sentence), satisfies(kind, structure, sentence))

    def test_every_choice_counts(self):
        kind = Kind([EDGE], [])
        sentence = (2, says("edge", (0, 1), 1))
        self.assertIs(holds(kind, (((),), ((1,),), ((1, 1),)), sentence), True)
        for structure in [(((),), ((0,),), ((1, 1),)), (((),), ((1,),), ((0, 1),)), (((),), ((1,),), ((1, 0),))]:
            self.assertIs(holds(kind, structure, sentence), False)

    def test_choices_in_every_order(self):
        kind = Kind([("arc", 2, 2, False)], [])
        for first, second in product((0, 1), repeat=2):
            structure = (((),), ((first, second),))
            self.assertIs(holds(kind, structure, (2, says("arc", (0, 1), 1))), first == second == 1)
            self.assertIs(holds(kind, structure, (2, says("arc", (1, 0), 1))), first == second == 1)

    def test_fewer_points_than_the_count(self):
        kind = Kind([EDGE], [])
        complete = (((),), ((1,),), ((1, 1),), ((1, 1, 1),), ((1, 1, 1, 1),))
        for count in (1, 2, 3, 4):
            for size in range(6):
                self.assertIs(holds(kind, complete[:size], (count, ("false",))), size < count)
                self.assertIs(holds(kind, complete[:size], (count, ("true",))), True)

    def test_variables_that_do_not_occur(self):
        kind = Kind([EDGE], [])
        sentence = (4, says("edge", (0, 1), 1))
        self.assertIs(holds(kind, (((),), ((0,),), ((0, 0),)), sentence), True)
        self.assertIs(holds(kind, (((),), ((0,),), ((0, 0),), ((0, 0, 0),)), sentence), False)

    def test_values_that_a_relation_does_not_have(self):
        kind = Kind([EDGE, ("only", 1, 1, False)], [])
        structure = (((), (0,)), ((1,), (0,)))
        for formula in [says("edge", (0, 1), 2), says("edge", (1, 0), 10 ** 9 - 1), says("only", (0,), 1)]:
            self.assertIs(holds(kind, structure, (2, formula)), False)
            self.assertIs(holds(kind, structure, (2, ("not", formula))), True)

    def test_symmetric_relations_with_variables_in_any_order(self):
        kind = Kind([("block", 3, 2, True)], [])
        for number in (0, 1):
            structure = (((),), ((),), ((number,),))
            for variables in [(0, 1, 2), (2, 1, 0), (1, 2, 0)]:
                self.assertIs(holds(kind, structure, (3, says("block", variables, 1))), number == 1)

    def test_all_small_structures(self):
        kind = Kind([EDGE, ("arc", 2, 2, False)], [])
        chance = random.Random(11)
        structures = [each for size in range(3) for each in every_structure(kind, size)]
        for _ in range(60):
            count = chance.randrange(1, 5)
            sentence = (count, some_formula(kind.relations, count, 5, chance))
            for structure in structures:
                self.assertIs(holds(kind, structure, sentence), satisfies(kind, structure, sentence))

    def test_random_sentences(self):
        chance = random.Random(12)
        kind = Kind(mixed_relations(), [])
        answers = []
        for _ in range(400):
            count = chance.randrange(1, 5)
            sentence = (count, some_formula(kind.relations, count, 4, chance))
            structure = some_structure(kind, chance.randrange(6), chance)
            with self.subTest(sentence=sentence, structure=structure):
                answers.append(holds(kind, structure, sentence))
                self.assertIs(answers[-1], satisfies(kind, structure, sentence))
        self.assertIn(True, answers)
        self.assertIn(False, answers)

    def test_sentences_of_the_kind_do_not_matter(self):
        kind = Kind([EDGE], [(1, ("false",))])
        self.assertIs(holds(kind, (((),), ((1,),)), (2, says("edge", (0, 1), 1))), True)

    def test_deep_formulas(self):
        kind = Kind([EDGE], [])
        formula = says("edge", (0, 1), 1)
        for _ in range(21):
            formula = ("not", ("implies", formula, ("false",)))
        self.assertIs(holds(kind, (((),), ((1,),)), (2, formula)), True)
        self.assertIs(holds(kind, (((),), ((0,),)), (2, formula)), False)


if __name__ == "__main__":
    unittest.main()
