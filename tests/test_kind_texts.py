"""Points 1.9 and 1.10: texts of kinds, and the ready kinds."""

import random
import unittest

from definitions import EDGE, mixed_relations, ready_kinds, sample_kinds, says, some_formula
from grammar_by_hand import fault_place, formula_tokens, spaced
from oneofeach.errors import CensusError, DuplicateName, SyntaxFault, UnknownName, WrongArity
from oneofeach.kinds import Kind, read_kind, ready, write_kind

MARK = ("mark", 1, 3, False)
GRAPH_LINE = "relation edge 2 values 2 symmetric"


def fields(kind):
    """The fields of a kind."""
    return (kind.relations, kind.sentences)


class ReadTest(unittest.TestCase):

    def test_relations(self):
        self.assertEqual(fields(read_kind(GRAPH_LINE)), ([EDGE], []))
        self.assertEqual(fields(read_kind("relation mark 1 values 3")), ([MARK], []))
        self.assertEqual(fields(read_kind("relation t 3 values 1 symmetric")), ([("t", 3, 1, True)], []))
        self.assertEqual(fields(read_kind("relation m 1 values 1 symmetric")), ([("m", 1, 1, True)], []))
        self.assertEqual(fields(read_kind("relation x 2 values 999999999")), ([("x", 2, 999999999, False)], []))
        self.assertEqual(fields(read_kind("relation x 002 values 000000010")), ([("x", 2, 10, False)], []))

    def test_kinds_of_values(self):
        kind = read_kind(GRAPH_LINE + "\nall x: true")
        self.assertIs(type(kind), Kind)
        self.assertIs(type(kind.relations), list)
        self.assertIs(type(kind.relations[0]), tuple)
        self.assertIs(kind.relations[0][3], True)
        self.assertIs(read_kind("relation arc 2 values 2").relations[0][3], False)
        self.assertIs(type(kind.sentences), list)

    def test_relations_and_sentences_in_order(self):
        text = "relation b 1 values 2\nrelation a 2 values 5 symmetric\nall x: b(x) = 1\nall y x: a(x, y) = 4\nall x: true"
        self.assertEqual(fields(read_kind(text)), (
            [("b", 1, 2, False), ("a", 2, 5, True)],
            [(1, says("b", (0,), 1)), (2, says("a", (1, 0), 4)), (1, ("true",))],
        ))

    def test_nothing(self):
        for text in ["", "\n", "  ", " \n\n  \n "]:
            self.assertEqual(fields(read_kind(text)), ([], []))

    def test_no_relations(self):
        self.assertEqual(fields(read_kind("all x y: false")), ([], [(2, ("false",))]))
        self.assertEqual(fields(read_kind("\nall x: true\n\nall x: false\n")), ([], [(1, ("true",)), (1, ("false",))]))

    def test_empty_lines(self):
        expected = ([EDGE, MARK], [(1, ("true",)), (2, ("false",))])
        lines = [GRAPH_LINE, "relation mark 1 values 3", "all x: true", "all x y: false"]
        for gap in ["\n", "\n\n", "\n  \n\n"]:
            for before in ["", "\n", " \n\n "]:
                for behind in ["", "\n", "\n\n", "  \n \n "]:
                    self.assertEqual(fields(read_kind(before + gap.join(lines) + behind)), expected)

    def test_spaces(self):
        text = "  relation   edge  2  values  2  symmetric  \n   all  x:true  "
        self.assertEqual(fields(read_kind(text)), ([EDGE], [(1, ("true",))]))

    def test_a_thousand_sentences(self):
        kind = read_kind(GRAPH_LINE + "\nall x y: edge(x, y) = 1" * 1000)
        self.assertEqual(kind.sentences, [(2, says("edge", (0, 1), 1))] * 1000)


class FaultTest(unittest.TestCase):

    def fault(self, text, place):
        """Check that the text has its syntax fault at the place."""
        with self.assertRaises(SyntaxFault) as held:
            read_kind(text)
        self.assertEqual(held.exception.place, place, repr(text))

    def test_arities(self):
        for number in ["0", "4", "00", "10", "999999999"]:
            self.fault(f"relation a {number} values 2", 11)
            self.fault(f"\nrelation a {number} ?", 12)
        for number in [1, 2, 3]:
            self.assertEqual(read_kind(f"relation a {number} values 2").relations[0][1], number)

    def test_numbers_of_values(self):
        self.fault("relation a 1 values 0", 20)
        self.fault("relation a 1 values 000 symmetric", 20)
        self.fault("relation a 1 values 1234567890", 20)
        self.assertEqual(read_kind("relation a 1 values 4").relations, [("a", 1, 4, False)])

    def test_relations(self):
        self.fault("relation", 8)
        self.fault("relation 2 values 2", 9)
        self.fault("relation all 2 values 2", 9)
        self.fault("relation a", 10)
        self.fault("relation a values 2", 11)
        self.fault("relation a x values 2", 11)
        self.fault("relation a 2", 12)
        self.fault("relation a 2 2", 13)
        self.fault("relation a 2 value 2", 13)
        self.fault("relation a 2 values", 19)
        self.fault("relation a 2 values symmetric", 20)
        self.fault("relation a 2 values 2 2", 22)
        self.fault("relation a 2 values 2 symmetric symmetric", 32)
        self.fault("relation a 2 values 2 relation b 2 values 2", 22)
        self.fault("relation a 2 values 2 all x: true", 22)
        self.fault("relation a\n2 values 2", 10)
        self.fault("relation a 2 values 2, symmetric", 21)

    def test_other_lines(self):
        self.fault("edge", 0)
        self.fault("symmetric", 0)
        self.fault("\n\nvalues", 2)
        self.fault("true", 0)
        self.fault(GRAPH_LINE + "\nx", len(GRAPH_LINE) + 1)
        self.fault("all x: true\nx", 12)

    def test_a_relation_behind_a_sentence(self):
        self.fault("all x: true\nrelation a 2 values 2", 12)
        self.fault("relation b 1 values 1\n\nall x: true\n\nrelation a 2 values 2", 36)

    def test_sentences(self):
        self.fault("all x: true and\nall x: true", 15)
        self.fault("all x:\ntrue", 6)
        self.fault("all x: true all x: true", 12)
        self.fault("all x: (true\n)", 12)
        self.fault("all x: symmetric", 7)
        self.fault("all x", 5)

    def test_later_lines(self):
        before = GRAPH_LINE + "\n\n all x y: edge(x, y) = 1\n"
        self.fault(before + "all x: true true", len(before) + 12)
        self.fault(before + "all x: ?", len(before) + 7)
        self.fault(before + "all x y z w v: true", len(before) + 12)
        self.fault(before + "all x: true\nrelation a 1 values 2", len(before) + 12)

    def test_faults_of_tokens_behind_and_ahead_of_syntax_faults(self):
        self.fault("relation a 2 2 values ?", 13)
        self.fault("relation a ? 2 values 2", 11)
        self.fault("all x: true\n\nall\nX", 16)
        self.fault("all x: true\n\nX\nall", 13)
        self.fault("relation a 4 values 2\n?", 11)

    def test_a_syntax_fault_ahead_of_all_other_errors(self):
        for text in [
            "relation a 1 values 2\nrelation a 1 values 2\nall x x: p(y) = 1\nx",
            "all x x: p(y) = 1\nall x: ?",
            "all x: a(x, x) = 1\nrelation a 1 values 2",
        ]:
            with self.assertRaises(SyntaxFault):
                read_kind(text)

    def test_against_the_productions(self):
        chance = random.Random(220)
        pieces = [
            "all", "x", "y", ":", "true", "not", "and", "->", "(", ")", "=", "0", "1", "4", "p", "\n", "\n", "\n",
            "relation", "values", "symmetric", "?", "X",
        ]
        right = wrong = 0
        for _ in range(1200):
            tokens = ["\n"] * chance.randrange(2)
            for name, arity, values, symmetric in chance.sample(mixed_relations(), chance.randrange(3)):
                tokens += ["relation", name, str(arity), "values", str(values)] + ["symmetric"] * symmetric
                tokens += ["\n"] * chance.choice([1, 1, 2])
            for _ in range(chance.randrange(3)):
                formula = some_formula(mixed_relations(), 2, 2, chance)
                tokens += ["all", "x", "y", ":"] + formula_tokens(formula, ["x", "y"], chance, 0.1)[0]
                tokens += ["\n"] * chance.choice([1, 1, 2])
            for _ in range(chance.randrange(3)):
                at = chance.randrange(len(tokens) + 1)
                tokens[at:at + chance.randrange(3)] = [chance.choice(pieces) for _ in range(chance.randrange(3))]
            text = spaced(tokens, chance)
            place = fault_place(text, "kind_text")
            if place is None:
                right += 1
                try:
                    read_kind(text)
                except CensusError as error:
                    self.assertIn(type(error), [UnknownName, DuplicateName, WrongArity])
            else:
                wrong += 1
                self.fault(text, place)
        self.assertGreater(right, 250)
        self.assertGreater(wrong, 250)


class OtherErrorsTest(unittest.TestCase):

    def refuse(self, error, name, text):
        """Check the error and the name that it carries."""
        with self.assertRaises(error) as held:
            read_kind(text)
        self.assertIs(type(held.exception), error)
        self.assertEqual(held.exception.name, name)

    def test_errors_of_variables(self):
        self.refuse(DuplicateName, "x", "all x x: true")
        self.refuse(UnknownName, "y", "relation p 1 values 2\nall x: p(y) = 1")
        self.refuse(DuplicateName, "x", "relation e 2 values 2\nall x: e(x, x) = 1")

    def test_errors_of_variables_sentence_by_sentence(self):
        self.refuse(UnknownName, "z", "relation p 1 values 2\nall x: p(z) = 1\nall y y: true")
        self.refuse(DuplicateName, "y", "relation p 1 values 2\nall y y: true\nall x: p(z) = 1")
        self.refuse(DuplicateName, "a", "all x: true\n\nall a a: true\nall b b: true")

    def test_errors_of_variables_ahead_of_those_of_kinds(self):
        self.refuse(UnknownName, "z", "relation p 1 values 2\nrelation p 1 values 2\nall x: p(z) = 1")
        self.refuse(DuplicateName, "y", "all x: unknown(x) = 1\nall y y: true")
        self.refuse(UnknownName, "v", "relation p 1 values 2\nall x y: p(x, y) = 1\nall x: p(v) = 1")

    def test_errors_of_kinds(self):
        self.refuse(DuplicateName, "p", "relation p 1 values 2\nrelation p 2 values 2\nall x: q(x) = 1")
        self.refuse(UnknownName, "q", "relation p 1 values 2\nall x y: q(x) = 1 and p(x, y) = 1")
        self.refuse(WrongArity, "p", "relation p 1 values 2\nall x y: p(x, y) = 1 and q(x) = 1")
        self.refuse(WrongArity, "e", "relation e 2 values 2\nall x: true\nall x: e(x) = 1\nall x: q(x) = 1")

    def test_values_that_the_relation_does_not_have(self):
        self.assertEqual(read_kind("relation p 1 values 2\nall x: p(x) = 9").sentences, [(1, says("p", (0,), 9))])


class WriteTest(unittest.TestCase):

    def test_texts(self):
        self.assertEqual(write_kind(Kind([], [])), "")
        self.assertEqual(write_kind(Kind([EDGE], [])), GRAPH_LINE)
        self.assertEqual(write_kind(Kind([], [(1, ("true",))])), "all x: true")
        self.assertEqual(
            write_kind(Kind([MARK, EDGE, ("t", 3, 999999999, False)], [(2, ("not", says("edge", (1, 0), 1))), (1, ("true",))])),
            "relation mark 1 values 3\n" + GRAPH_LINE + "\nrelation t 3 values 999999999\n"
            "all x y: not edge(y, x) = 1\nall x: true",
        )

    def test_read_again(self):
        chance = random.Random(221)
        kinds = list(sample_kinds().values())
        for _ in range(50):
            relations = chance.sample(mixed_relations(), chance.randrange(7))
            counts = [chance.randrange(1, 5) for _ in range(chance.randrange(5))]
            kinds.append(Kind(relations, [(count, some_formula(relations, count, 4, chance)) for count in counts]))
        for kind in kinds:
            self.assertEqual(fields(read_kind(write_kind(kind))), fields(kind))
            self.assertEqual(len(write_kind(kind).split("\n")), max(1, len(kind.relations) + len(kind.sentences)))


class ReadyTest(unittest.TestCase):

    def test_each_ready_kind(self):
        self.assertEqual(len(ready_kinds()), 7)
        for name, kind in ready_kinds().items():
            self.assertIs(type(ready(name)), Kind)
            self.assertEqual(fields(ready(name)), fields(kind), name)

    def test_texts(self):
        self.assertEqual(write_kind(ready("orders")).split("\n"), [
            "relation below 2 values 2",
            "all x y: not (below(x, y) = 1 and below(y, x) = 1)",
            "all x y z: below(x, y) = 1 and below(y, z) = 1 -> below(x, z) = 1",
        ])
        self.assertEqual(write_kind(ready("triples")), "relation block 3 values 2 symmetric")

    def test_other_names(self):
        for name in ["graph", "graphs2", "graphsx", "g", "digraph", "order", "orders_", "tournament", "x", "mixed"]:
            with self.assertRaises(UnknownName) as held:
                ready(name)
            self.assertEqual(held.exception.name, name)

    def test_changed_lists(self):
        for name, kind in ready_kinds().items():
            found = ready(name)
            found.relations.append(EDGE)
            found.sentences.insert(0, (1, ("false",)))
            self.assertEqual(fields(ready(name)), fields(kind))


if __name__ == "__main__":
    unittest.main()
