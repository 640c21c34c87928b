"""Points 16.1 to 16.3: translations."""

import copy
import random
import unittest
from itertools import permutations

from by_hand import number_in, paper_by_hand, small_kinds
from definitions import (
    ALIKE, ARC, BELOW, BLOCK, EDGE, belongs, both, every_structure, listed_values, mixed_relations, part_on,
    ready_kinds, renamed_by, sample_kinds, says, some_formula, some_structure, structure_of, truth,
)
from oneofeach.errors import DuplicateName, UnknownName, WrongArity
from oneofeach.kinds import Kind
from oneofeach.papers import write_up
from oneofeach.translation import Translation, class_map, translated

GRAPHS, DIGRAPHS = ready_kinds()["graphs"], ready_kinds()["digraphs"]
MIXED = sample_kinds()["mixed"]
TRUE, FALSE = ("true",), ("false",)
# A digraph gives a graph: points are joined where there is an arc in some direction.
SHADOW = Translation(DIGRAPHS, GRAPHS, [("edge", [says("arc", (0, 1), 1)])])


def some_rules(source, target, chance):
    """Rules for all relations of the target, in any order."""
    rules = []
    for name, arity, values, symmetric in target.relations:
        rules.append((name, [some_formula(source.relations, arity, 3, chance) for _ in range(values - 1)]))
    chance.shuffle(rules)
    return rules


def translated_by_hand(translation, structure):
    """Point 16.1."""
    tables = listed_values(translation.source, structure)
    formulas = dict(translation.rules)
    symmetric = {relation[0]: relation[3] for relation in translation.target.relations}

    def number_at(name, place):
        orders = list(permutations(place)) if symmetric[name] else [place]
        for number, formula in enumerate(formulas[name]):
            if any(truth(formula, tables, points) for points in orders):
                return number + 1
        return 0

    return structure_of(translation.target, len(structure), number_at)


class MakingTest(unittest.TestCase):

    def test_fields(self):
        rules = [("edge", [says("arc", (0, 1), 1)])]
        translation = Translation(DIGRAPHS, GRAPHS, rules)
        self.assertIs(translation.source, DIGRAPHS)
        self.assertIs(translation.target, GRAPHS)
        self.assertEqual(translation.rules, rules)
        self.assertIs(type(translation.rules), list)
        self.assertIs(type(translation.rules[0]), tuple)
        self.assertIs(type(translation.rules[0][1]), list)
        self.assertEqual(set(vars(translation)), {"source", "target", "rules"})

    def test_keywords(self):
        translation = Translation(rules=[], target=Kind([], []), source=GRAPHS)
        self.assertEqual(translation.rules, [])

    def test_lists_are_copied(self):
        formulas = [says("arc", (0, 1), 1)]
        rules = [("edge", formulas)]
        translation = Translation(DIGRAPHS, GRAPHS, rules)
        self.assertEqual(rules, [("edge", [says("arc", (0, 1), 1)])])
        rules.append(("more", []))
        formulas[0] = FALSE
        formulas.append(TRUE)
        self.assertEqual(translation.rules, [("edge", [says("arc", (0, 1), 1)])])
        self.assertEqual(translated(translation, (((),), ((1, 0),))), (((),), ((1,),)))

    def test_no_equality_of_its_own(self):
        rules = [("edge", [TRUE])]
        self.assertNotEqual(Translation(GRAPHS, GRAPHS, rules), Translation(GRAPHS, GRAPHS, rules))

    def test_rules_in_any_order(self):
        chance = random.Random(270)
        rules = some_rules(MIXED, MIXED, chance)
        structure = some_structure(MIXED, 3, chance)
        found = set()
        for order in list(permutations(rules))[::97]:
            translation = Translation(MIXED, MIXED, list(order))
            self.assertEqual(translation.rules, list(order))
            found.add(translated(translation, structure))
        self.assertEqual(len(found), 1)


class ErrorsTest(unittest.TestCase):

    def refuse(self, error, name, source, target, rules):
        """Check the error and the name that it carries, and that the rules stay as they were."""
        before = copy.deepcopy(rules)
        with self.assertRaises(error) as held:
            Translation(source, target, rules)
        self.assertIs(type(held.exception), error)
        self.assertEqual(held.exception.name, name)
        self.assertEqual(rules, before)

    def setUp(self):
        self.target = Kind([("a", 1, 2, False), ("b", 2, 3, True), ("c", 3, 1, False)], [])
        self.right = [("a", [TRUE]), ("b", [TRUE, says("edge", (0, 1), 1)]), ("c", [])]

    def test_right_ones(self):
        Translation(GRAPHS, self.target, self.right)
        Translation(GRAPHS, self.target, self.right[::-1])
        Translation(Kind([], []), Kind([], []), [])

    def test_duplicate_names(self):
        self.refuse(DuplicateName, "a", GRAPHS, self.target, [self.right[0], self.right[0]] + self.right[1:])
        self.refuse(DuplicateName, "c", GRAPHS, self.target, self.right + [self.right[2]])
        self.refuse(DuplicateName, "b", GRAPHS, self.target, self.right[1:] + [self.right[1]])

    def test_unknown_names(self):
        self.refuse(UnknownName, "d", GRAPHS, self.target, [("d", [])] + self.right)
        self.refuse(UnknownName, "d", GRAPHS, self.target, self.right + [("d", [])])
        self.refuse(UnknownName, "edge", GRAPHS, self.target, [("edge", [TRUE])] + self.right)

    def test_atoms(self):
        wrong = says("arc", (0, 1), 1)
        self.refuse(UnknownName, "arc", GRAPHS, self.target, [("a", [TRUE]), ("b", [TRUE, both(TRUE, wrong)]), ("c", [])])
        self.refuse(UnknownName, "b", GRAPHS, self.target, [("a", [TRUE]), ("b", [says("b", (0, 1), 1), TRUE]), ("c", [])])
        self.refuse(WrongArity, "edge", GRAPHS, self.target, [("a", [says("edge", (0,), 1)])] + self.right[1:])
        self.refuse(WrongArity, "edge", GRAPHS, self.target, [("a", [both(says("edge", (0,), 1), wrong)])] + self.right[1:])
        self.refuse(UnknownName, "arc", GRAPHS, self.target, [("a", [both(wrong, says("edge", (0,), 1))])] + self.right[1:])

    def test_numbers_of_formulas(self):
        for formulas in [[], [TRUE, TRUE]]:
            self.refuse(WrongArity, "a", GRAPHS, self.target, [("a", formulas)] + self.right[1:])
        for formulas in [[], [TRUE], [TRUE, TRUE, TRUE]]:
            self.refuse(WrongArity, "b", GRAPHS, self.target, [self.right[0], ("b", formulas), self.right[2]])
        self.refuse(WrongArity, "c", GRAPHS, self.target, self.right[:2] + [("c", [TRUE])])

    def test_missing_rules(self):
        self.refuse(UnknownName, "a", GRAPHS, self.target, [])
        self.refuse(UnknownName, "a", GRAPHS, self.target, self.right[1:])
        self.refuse(UnknownName, "b", GRAPHS, self.target, [self.right[2], self.right[0]])
        self.refuse(UnknownName, "b", GRAPHS, self.target, [self.right[0]])
        self.refuse(UnknownName, "c", GRAPHS, self.target, self.right[:2])

    def test_the_order_for_one_rule(self):
        unknown, arity = says("arc", (0, 1), 1), says("edge", (0,), 1)
        # A name given twice goes ahead of an unknown name, but then the earlier rule is wrong already.
        self.refuse(UnknownName, "d", GRAPHS, self.target, [("d", []), ("d", [])])
        self.refuse(DuplicateName, "a", GRAPHS, self.target, [("a", [TRUE]), ("a", [unknown, unknown])])
        self.refuse(UnknownName, "d", GRAPHS, self.target, [("d", [unknown, arity])])
        self.refuse(UnknownName, "arc", GRAPHS, self.target, [("a", [TRUE, unknown])])
        self.refuse(UnknownName, "arc", GRAPHS, self.target, [("c", [unknown])])
        self.refuse(WrongArity, "edge", GRAPHS, self.target, [("a", [arity, unknown])])
        self.refuse(UnknownName, "arc", GRAPHS, self.target, [("b", [unknown, arity])])
        self.refuse(WrongArity, "edge", GRAPHS, self.target, [("b", [TRUE, TRUE, arity])])

    def test_rule_by_rule(self):
        unknown = says("arc", (0, 1), 1)
        self.refuse(WrongArity, "a", GRAPHS, self.target, [("a", []), ("b", [unknown, TRUE])])
        self.refuse(UnknownName, "arc", GRAPHS, self.target, [("b", [unknown, TRUE]), ("a", [])])
        self.refuse(WrongArity, "a", GRAPHS, self.target, [("a", []), ("a", [])])
        self.refuse(WrongArity, "a", GRAPHS, self.target, [("a", []), ("d", [])])
        self.refuse(UnknownName, "d", GRAPHS, self.target, [("d", []), ("a", [])])
        self.refuse(DuplicateName, "a", GRAPHS, self.target, [("a", [TRUE]), ("a", [TRUE]), ("d", [])])
        self.refuse(UnknownName, "d", GRAPHS, self.target, [("a", [TRUE]), ("d", []), ("a", [TRUE])])

    def test_missing_rules_behind_all_rules(self):
        self.refuse(UnknownName, "d", GRAPHS, self.target, [("c", []), ("d", [])])
        self.refuse(WrongArity, "c", GRAPHS, self.target, [("c", [TRUE])])
        self.refuse(DuplicateName, "c", GRAPHS, self.target, [("c", []), ("c", [])])


class TranslatedTest(unittest.TestCase):

    def test_shadow(self):
        self.assertEqual(translated(SHADOW, ()), ())
        self.assertEqual(translated(SHADOW, (((),),)), (((),),))
        for arcs, expected in [((0, 0), 0), ((0, 1), 1), ((1, 0), 1), ((1, 1), 1)]:
            self.assertEqual(translated(SHADOW, (((),), (arcs,))), (((),), ((expected,),)))

    def test_all_orders_of_three_points(self):
        target = Kind([BLOCK], [])
        formula = both(says("arc", (0, 1), 1), says("arc", (1, 2), 1))
        translation = Translation(DIGRAPHS, target, [("block", [formula])])
        seen = set()
        for structure in every_structure(DIGRAPHS, 3):
            found = translated(translation, structure)
            self.assertEqual(found, translated_by_hand(translation, structure))
            seen.add(found)
        self.assertEqual(len(seen), 2)

    def test_the_first_formula_that_is_true(self):
        target = Kind([("b", 2, 4, False)], [])
        arc, back = says("arc", (0, 1), 1), says("arc", (1, 0), 1)
        translation = Translation(DIGRAPHS, target, [("b", [both(arc, back), arc, back])])
        for arcs, expected in [((0, 0), (0, 0)), ((1, 1), (1, 1)), ((1, 0), (2, 3)), ((0, 1), (3, 2))]:
            self.assertEqual(translated(translation, (((),), (arcs,))), (((),), (expected,)))
        translation = Translation(DIGRAPHS, target, [("b", [FALSE, TRUE, TRUE])])
        self.assertEqual(translated(translation, (((),), ((0, 0),))), (((),), ((2, 2),)))

    def test_the_first_formula_that_is_true_in_some_order(self):
        target = Kind([("b", 2, 3, True)], [])
        colours = Kind([("colour", 1, 3, False)], [])
        low = both(says("colour", (0,), 2), says("colour", (1,), 1))
        translation = Translation(colours, target, [("b", [low, says("colour", (1,), 2)])])
        for one, other, expected in [(1, 2, 1), (2, 1, 1), (0, 2, 2), (2, 0, 2), (2, 2, 2), (1, 1, 0), (0, 1, 0)]:
            self.assertEqual(translated(translation, (((one,),), ((other,),))), (((),), ((expected,),)))

    def test_relations_with_one_value(self):
        target = Kind([("lone", 1, 1, True), ("only", 2, 1, False), ("three", 3, 1, True)], [])
        translation = Translation(GRAPHS, target, [("three", []), ("lone", []), ("only", [])])
        structure = (((),), ((1,),), ((0, 1),))
        self.assertEqual(translated(translation, structure), (
            ((0,), (), ()), ((0,), (0, 0), ()), ((0,), (0, 0, 0, 0), (0,)),
        ))

    def test_no_relations(self):
        nothing = Kind([], [])
        self.assertEqual(translated(Translation(GRAPHS, nothing, []), (((),), ((1,),))), ((), ()))
        target = Kind([("a", 1, 2, False)], [])
        self.assertEqual(translated(Translation(nothing, target, [("a", [TRUE])]), ((), ())), (((1,),), ((1,),)))

    def test_values_that_the_relation_does_not_have(self):
        translation = Translation(GRAPHS, GRAPHS, [("edge", [("not", says("edge", (0, 1), 7))])])
        self.assertEqual(translated(translation, (((),), ((0,),))), (((),), ((1,),)))

    def test_the_sentences_of_the_target_do_not_matter(self):
        target = ready_kinds()["trianglefree"]
        translation = Translation(GRAPHS, target, [("edge", [TRUE])])
        self.assertEqual(translated(translation, (((),), ((0,),), ((0, 0),))), (((),), ((1,),), ((1, 1),)))

    def test_structures_that_are_not_of_the_source(self):
        translation = Translation(ready_kinds()["tournaments"], DIGRAPHS, [("arc", [says("arc", (1, 0), 1)])])
        self.assertEqual(translated(translation, (((),), ((1, 1),))), (((),), ((1, 1),)))
        self.assertEqual(translated(translation, (((),), ((1, 0),))), (((),), ((0, 1),)))

    def test_any_rules(self):
        chance = random.Random(271)
        for _ in range(60):
            source = Kind(chance.sample(mixed_relations(), chance.randrange(5)), [])
            target = Kind(chance.sample(mixed_relations(), chance.randrange(5)), [])
            translation = Translation(source, target, some_rules(source, target, chance))
            for size in range(5):
                structure = some_structure(source, size, chance)
                self.assertEqual(translated(translation, structure), translated_by_hand(translation, structure))

    def test_renaming_and_parts_in_either_order(self):
        chance = random.Random(272)
        for _ in range(40):
            source = Kind(chance.sample(mixed_relations(), 3), [])
            target = Kind(chance.sample(mixed_relations(), 3), [])
            translation = Translation(source, target, some_rules(source, target, chance))
            structure = some_structure(source, 4, chance)
            found = translated(translation, structure)
            names = tuple(chance.sample(range(4), 4))
            self.assertEqual(
                translated(translation, renamed_by(source, structure, names)), renamed_by(target, found, names)
            )
            points = chance.sample(range(4), 3)
            self.assertEqual(
                translated(translation, part_on(source, structure, points)), part_on(target, found, points)
            )


class ClassMapTest(unittest.TestCase):

    def expected(self, translation, paper, target_paper, size):
        """The answer by the definitions."""
        numbers = []
        for item in paper.levels[size]:
            found = translated_by_hand(translation, item.structure)
            right = belongs(translation.target, found)
            numbers.append(number_in(translation.target, target_paper, found) if right else None)
        return numbers

    def test_shadows(self):
        paper, target_paper = write_up(DIGRAPHS, 3), write_up(GRAPHS, 3)
        found = class_map(SHADOW, paper, target_paper, 2)
        self.assertEqual(found, [0, 1, 1])
        for size in range(4):
            self.assertEqual(
                class_map(SHADOW, paper, target_paper, size), self.expected(SHADOW, paper, target_paper, size)
            )
        self.assertEqual(len(class_map(SHADOW, paper, target_paper, 3)), 16)

    def test_none_where_it_is_not_of_the_target(self):
        kinds = ready_kinds()
        chance = random.Random(273)
        pairs = [
            ("graphs", "trianglefree", [("edge", [says("edge", (0, 1), 1)])]),
            ("graphs", "equivalences", [("alike", [says("edge", (0, 1), 0)])]),
            ("digraphs", "orders", [("below", [says("arc", (0, 1), 1)])]),
            ("digraphs", "tournaments", [("arc", [says("arc", (0, 1), 1)])]),
        ]
        for source, target, rules in pairs:
            translation = Translation(kinds[source], kinds[target], rules)
            paper = paper_by_hand(kinds[source], 3, chance)
            target_paper = paper_by_hand(kinds[target], 3, chance)
            for size in range(4):
                found = class_map(translation, paper, target_paper, size)
                self.assertIs(type(found), list)
                self.assertEqual(found, self.expected(translation, paper, target_paper, size))
            self.assertIn(None, found)
            self.assertNotEqual(set(found), {None})

    def test_papers_by_hand(self):
        chance = random.Random(274)
        kinds = [(kind, min(size, 3)) for kind, size in small_kinds()]
        for _ in range(25):
            (source, one), (target, other) = chance.choice(kinds), chance.choice(kinds)
            translation = Translation(source, target, some_rules(source, target, chance))
            paper, target_paper = paper_by_hand(source, one, chance), paper_by_hand(target, other, chance)
            for size in range(min(one, other) + 1):
                self.assertEqual(
                    class_map(translation, paper, target_paper, size),
                    self.expected(translation, paper, target_paper, size),
                )

    def test_the_other_paper_goes_further(self):
        found = class_map(SHADOW, write_up(DIGRAPHS, 2), write_up(GRAPHS, 5), 2)
        self.assertEqual(found, [0, 1, 1])

    def test_no_structures(self):
        kind = Kind([EDGE, ARC, BELOW, ALIKE], [(1, FALSE)])
        translation = Translation(kind, GRAPHS, [("edge", [TRUE])])
        self.assertEqual(class_map(translation, write_up(kind, 0), write_up(GRAPHS, 2), 0), [0])
        kind = Kind([EDGE], [(1, FALSE)])
        translation = Translation(kind, GRAPHS, [("edge", [TRUE])])
        self.assertEqual(class_map(translation, write_up(kind, 2), write_up(GRAPHS, 2), 2), [])


if __name__ == "__main__":
    unittest.main()
