"""Points 1.4 to 1.6: reading sentences."""

import random
import unittest

from definitions import mixed_relations, says, some_formula
from grammar_by_hand import fault_place, formula_tokens, spaced
from oneofeach.errors import CensusError, DuplicateName, SyntaxFault, UnknownName
from oneofeach.sentences import read_sentence

A, B, C, D = [says("p", (number,), 1) for number in range(4)]
START = "all x y z w: "
ATOMS = {"A": "p(x) = 1", "B": "p(y) = 1", "C": "p(z) = 1", "D": "p(w) = 1"}


def read(pattern):
    """The formula of a text in which A, B, C and D stand for atoms."""
    return read_sentence(START + "".join(ATOMS.get(sign, sign) for sign in pattern))[1]


class GrammarTest(unittest.TestCase):

    def test_lists_of_variables(self):
        self.assertEqual(read_sentence("all x: true"), (1, ("true",)))
        self.assertEqual(read_sentence("all y x: true"), (2, ("true",)))
        self.assertEqual(read_sentence("all a b c: false"), (3, ("false",)))
        self.assertEqual(read_sentence("all a b c d: false"), (4, ("false",)))

    def test_atoms(self):
        self.assertEqual(read_sentence("all x: p(x) = 0"), (1, ("is", "p", (0,), 0)))
        self.assertEqual(read_sentence("all x y: edge(x, y) = 1"), (2, ("is", "edge", (0, 1), 1)))
        self.assertEqual(read_sentence("all x y: edge(y, x) = 25"), (2, ("is", "edge", (1, 0), 25)))
        self.assertEqual(read_sentence("all a b c d: t(d, b, a) = 999999999"), (4, ("is", "t", (3, 1, 0), 999999999)))
        self.assertEqual(read_sentence("all x1 aB_: x1(aB_,x1)=3"), (2, ("is", "x1", (1, 0), 3)))

    def test_kinds_of_values(self):
        sentence = read_sentence("all x y: not (edge(x, y) = 1)")
        self.assertIs(type(sentence), tuple)
        self.assertIs(type(sentence[1]), tuple)
        self.assertIs(type(sentence[1][1]), tuple)
        self.assertIs(type(sentence[1][1][2]), tuple)

    def test_relations_called_like_formulas(self):
        self.assertEqual(read_sentence("all is: is(is) = 1"), (1, ("is", "is", (0,), 1)))
        self.assertEqual(read_sentence("all x: same(x) = 1 and implies(x) = 1")[1][0], "and")

    def test_leading_zeros(self):
        self.assertEqual(read_sentence("all x: p(x) = 000000007"), (1, ("is", "p", (0,), 7)))
        self.assertEqual(read_sentence("all x: p(x) = 00"), (1, ("is", "p", (0,), 0)))

    def test_each_operator(self):
        self.assertEqual(read("not A"), ("not", A))
        self.assertEqual(read("A and B"), ("and", A, B))
        self.assertEqual(read("A or B"), ("or", A, B))
        self.assertEqual(read("A -> B"), ("implies", A, B))
        self.assertEqual(read("A <-> B"), ("same", A, B))

    def test_chains(self):
        self.assertEqual(read("A and B and C"), ("and", ("and", A, B), C))
        self.assertEqual(read("A or B or C"), ("or", ("or", A, B), C))
        self.assertEqual(read("A <-> B <-> C"), ("same", ("same", A, B), C))
        self.assertEqual(read("A -> B -> C"), ("implies", A, ("implies", B, C)))
        self.assertEqual(read("A and B and C and D"), ("and", ("and", ("and", A, B), C), D))
        self.assertEqual(read("A or B or C or D"), ("or", ("or", ("or", A, B), C), D))
        self.assertEqual(read("A <-> B <-> C <-> D"), ("same", ("same", ("same", A, B), C), D))
        self.assertEqual(read("A -> B -> C -> D"), ("implies", A, ("implies", B, ("implies", C, D))))

    def test_levels(self):
        heads = [("<->", "same"), ("->", "implies"), ("or", "or"), ("and", "and")]
        for low, (weak, weak_head) in enumerate(heads):
            for strong, strong_head in heads[low + 1:]:
                self.assertEqual(read(f"A {weak} B {strong} C"), (weak_head, A, (strong_head, B, C)))
                self.assertEqual(read(f"A {strong} B {weak} C"), (weak_head, (strong_head, A, B), C))
        self.assertEqual(
            read("A <-> B -> C or D and A"), ("same", A, ("implies", B, ("or", C, ("and", D, A))))
        )
        self.assertEqual(
            read("A and B or C -> D <-> A"), ("same", ("implies", ("or", ("and", A, B), C), D), A)
        )

    def test_not(self):
        self.assertEqual(read("not not A"), ("not", ("not", A)))
        self.assertEqual(read("not not not true"), ("not", ("not", ("not", ("true",)))))
        for sign, head in [("<->", "same"), ("->", "implies"), ("or", "or"), ("and", "and")]:
            self.assertEqual(read(f"not A {sign} not B"), (head, ("not", A), ("not", B)))
            self.assertEqual(read(f"not (A {sign} B)"), ("not", (head, A, B)))

    def test_brackets(self):
        self.assertEqual(read("(A)"), A)
        self.assertEqual(read("((not (A)))"), ("not", A))
        self.assertEqual(read("A and (B and C)"), ("and", A, ("and", B, C)))
        self.assertEqual(read("A or (B or C)"), ("or", A, ("or", B, C)))
        self.assertEqual(read("A <-> (B <-> C)"), ("same", A, ("same", B, C)))
        self.assertEqual(read("(A -> B) -> C"), ("implies", ("implies", A, B), C))
        self.assertEqual(read("(A or B) and C"), ("and", ("or", A, B), C))
        self.assertEqual(read("(A <-> B) -> (C <-> D)"), ("implies", ("same", A, B), ("same", C, D)))

    def test_twenty_brackets(self):
        self.assertEqual(read_sentence("all x: " + "(" * 20 + "true" + ")" * 20), (1, ("true",)))
        text, formula = "false", ("false",)
        for _ in range(20):
            text, formula = f"not ({text})", ("not", formula)
        self.assertEqual(read_sentence("all x: " + text), (1, formula))
        self.assertEqual(read_sentence("all x:" + " not ( true and" * 19 + "(true" + ")" * 20)[1][1][1], ("true",))

    def test_depth_40_without_brackets(self):
        formula = ("true",)
        for _ in range(39):
            formula = ("not", formula)
        self.assertEqual(read_sentence("all x: " + "not " * 39 + "true"), (1, formula))
        left = right = ("true",)
        for _ in range(39):
            left, right = ("or", left, ("true",)), ("implies", ("true",), right)
        self.assertEqual(read_sentence("all x: true" + " or true" * 39), (1, left))
        self.assertEqual(read_sentence("all x: true" + " -> true" * 39), (1, right))

    def test_spaces(self):
        expected = read_sentence("all x y: not edge(x, y) = 1 -> true")
        self.assertEqual(expected, (2, ("implies", ("not", says("edge", (0, 1), 1)), ("true",))))
        for text in [
            "all x y:not edge(x,y)=1->true",
            "   all   x   y  :  not   edge  (  x  ,  y  )  =  1  ->  true   ",
            "all x y :not edge( x ,y )= 01 ->true",
        ]:
            self.assertEqual(read_sentence(text), expected)

    def test_any_formula_with_any_brackets_and_spaces(self):
        chance = random.Random(200)
        for count in [1, 2, 3, 4]:
            names = ["x", "y1", "z_", "aB"][:count]
            for extra in [0, 0.05, 0.3]:
                for _ in range(60):
                    formula = some_formula(mixed_relations(), count, 5, chance)
                    tokens = ["all"] + names + [":"] + formula_tokens(formula, names, chance, extra)[0]
                    self.assertEqual(read_sentence(spaced(tokens, chance)), (count, formula))


class FaultTest(unittest.TestCase):

    def fault(self, text, place):
        """Check that the text has its syntax fault at the place."""
        with self.assertRaises(SyntaxFault) as held:
            read_sentence(text)
        self.assertEqual(held.exception.place, place, repr(text))

    def test_the_start(self):
        self.fault("", 0)
        self.fault("   ", 3)
        self.fault("x", 0)
        self.fault("true", 0)
        self.fault("  : true", 2)
        self.fault("al x: true", 0)

    def test_the_list_of_variables(self):
        self.fault("all", 3)
        self.fault("all : true", 4)
        self.fault("all 1: true", 4)
        self.fault("all true: true", 4)
        self.fault("all x, y: true", 5)
        self.fault("all x y z w v: true", 12)
        self.fault("all x x x x x: true", 12)
        self.fault("all x y z w", 11)
        self.fault("all x", 5)
        self.fault("all x true", 6)
        self.fault("all x = true", 6)

    def test_the_end_of_the_text(self):
        self.fault("all x:", 6)
        self.fault("all x:  ", 8)
        self.fault("all x: not", 10)
        self.fault("all x: p", 8)
        self.fault("all x: p(", 9)
        self.fault("all x: p(x", 10)
        self.fault("all x: p(x,", 11)
        self.fault("all x: p(x)", 11)
        self.fault("all x: p(x) =", 13)
        self.fault("all x: (true", 12)
        self.fault("all x: true and", 15)
        self.fault("all x: true -> ", 15)

    def test_newlines(self):
        self.fault("\nall x: true", 0)
        self.fault("all\nx: true", 3)
        self.fault("all x: true\n", 11)
        self.fault("all x: true  \n", 13)
        self.fault("all x: true and\ntrue", 15)

    def test_tokens_behind_a_sentence(self):
        self.fault("all x: true true", 12)
        self.fault("all x: true )", 12)
        self.fault("all x: (true))", 13)
        self.fault("all x: true all y: true", 12)
        self.fault("all x: true x", 12)
        self.fault("all x: p(x) = 1 2", 16)
        self.fault("all x: p(x) = 1 (", 16)
        self.fault("all x: true not true", 12)
        self.fault("all x: true = 1", 12)
        self.fault("all x: true :", 12)

    def test_formulas(self):
        self.fault("all x: and true", 7)
        self.fault("all x: or", 7)
        self.fault("all x: -> true", 7)
        self.fault("all x: true and or true", 16)
        self.fault("all x: true <-> -> true", 16)
        self.fault("all x: not and true", 11)
        self.fault("all x: ()", 8)
        self.fault("all x: (true and )", 17)
        self.fault("all x: 1", 7)
        self.fault("all x: x", 8)
        self.fault("all x: all y: true", 7)

    def test_atoms(self):
        self.fault("all x: p x) = 1", 9)
        self.fault("all x: p() = 1", 9)
        self.fault("all x: p(1) = 1", 9)
        self.fault("all x: p(true) = 1", 9)
        self.fault("all x y: p(x y) = 1", 13)
        self.fault("all x y: p(x,) = 1", 13)
        self.fault("all x: p(p(x)) = 1", 10)
        self.fault("all x: p(x) 1", 12)
        self.fault("all x: p(x) = x", 14)
        self.fault("all x: p(x) = true", 14)
        self.fault("all x: p(x) -> 1", 12)
        self.fault("all x: true(x) = 1", 11)
        self.fault("all x: p(x = 1", 11)

    def test_a_fourth_variable_of_an_atom(self):
        self.fault("all x y z w: p(x, y, z, w) = 1", 22)
        self.fault("all x y z w: p(x, y, z w) = 1", 23)
        self.fault("all x y z w: p(x, x, x, x) = 1", 22)

    def test_the_words_of_kinds(self):
        for word in ["relation", "values", "symmetric"]:
            self.fault(f"{word} x: true", 0)
            self.fault(f"all {word}: true", 4)
            self.fault(f"all x: {word}", 7)
            self.fault(f"all x: {word}(x) = 1", 7)
            self.fault(f"all x: p({word}) = 1", 9)
            self.fault(f"all x: true {word}", 12)
        self.fault("relation edge 2 values 2", 0)

    def test_faults_of_tokens(self):
        self.fault("X", 0)
        self.fault("all X: true", 4)
        self.fault("all x: true ?", 12)
        self.fault("all x: p(x) = 1234567890", 14)
        self.fault("all x: p(x) = 1x", 14)
        self.fault("all x: true\t", 11)
        self.fault("all x: true - true", 12)
        self.fault("all x: true _", 12)

    def test_faults_of_tokens_behind_and_ahead_of_syntax_faults(self):
        self.fault("all x: true true X", 12)
        self.fault("all x true ?", 6)
        self.fault("and ?", 0)
        self.fault("all x: ? true true", 7)
        self.fault("all x: true X true", 12)
        self.fault("all x: true\n?", 11)
        self.fault("?\n", 0)

    def test_many_tokens_that_are_no_sentence(self):
        self.fault("all x: " + "not " * 190, 7 + 4 * 190)
        self.fault("all x: " + "true -> " * 95 + ")", 7 + 8 * 95)
        self.fault("all x: " + "(" * 20 + "true" + ")" * 21, 7 + 44)
        self.fault("all x: " + "(" * 20 + "true" + ")" * 19, 7 + 43)

    def test_against_the_productions(self):
        chance = random.Random(201)
        pieces = [
            "all", "x", "y", ":", "true", "not", "and", "or", "->", "<->", "(", ")", "=", ",", "1", "00", "p", "\n",
            "relation", "values", "?", "X", "-", "1234567890",
        ]
        right = wrong = 0
        for _ in range(1500):
            names = ["x", "y", "z", "w"][:chance.randrange(1, 5)]
            formula = some_formula(mixed_relations(), len(names), 3, chance)
            tokens = ["all"] + names + [":"] + formula_tokens(formula, names, chance, 0.1)[0]
            for _ in range(chance.randrange(3)):
                at = chance.randrange(len(tokens) + 1)
                tokens[at:at + chance.randrange(3)] = [chance.choice(pieces) for _ in range(chance.randrange(3))]
            text = spaced(tokens, chance)
            place = fault_place(text, "sentence_text")
            if place is None:
                right += 1
                try:
                    read_sentence(text)
                except CensusError as error:
                    self.assertIn(type(error), [UnknownName, DuplicateName])
            else:
                wrong += 1
                self.fault(text, place)
        self.assertGreater(right, 300)
        self.assertGreater(wrong, 300)


class VariablesTest(unittest.TestCase):

    def refuse(self, error, name, text):
        """Check the error and the name that it carries."""
        with self.assertRaises(error) as held:
            read_sentence(text)
        self.assertIs(type(held.exception), error)
        self.assertEqual(held.exception.name, name)

    def test_duplicates_in_the_list(self):
        self.refuse(DuplicateName, "x", "all x x: true")
        self.refuse(DuplicateName, "y", "all x y y x: true")
        self.refuse(DuplicateName, "x", "all x y x y: true")
        self.refuse(DuplicateName, "b", "all a b c b: p(b) = 1")

    def test_unknown_variables(self):
        self.refuse(UnknownName, "y", "all x: p(y) = 1")
        self.refuse(UnknownName, "p", "all x: p(p) = 1")
        self.refuse(UnknownName, "z", "all x y: edge(x, z) = 1")
        self.refuse(UnknownName, "v", "all x y: true and not (p(x) = 1 or t(y, x, v) = 0)")

    def test_duplicates_in_an_atom(self):
        self.refuse(DuplicateName, "x", "all x: edge(x, x) = 1")
        self.refuse(DuplicateName, "y", "all x y: t(y, x, y) = 1")
        self.refuse(DuplicateName, "y", "all x y: t(x, y, y) = 1")

    def test_the_list_comes_first(self):
        self.refuse(DuplicateName, "x", "all x x: p(y) = 1")
        self.refuse(DuplicateName, "x", "all y x x: edge(y, y) = 1")

    def test_from_left_to_right(self):
        self.refuse(UnknownName, "z", "all x: t(z, x, x) = 1")
        self.refuse(DuplicateName, "x", "all x: t(x, x, z) = 1")
        self.refuse(UnknownName, "z", "all x: t(z, z, x) = 1")
        self.refuse(UnknownName, "z", "all x: p(z) = 1 and edge(x, x) = 1")
        self.refuse(DuplicateName, "x", "all x: edge(x, x) = 1 and p(z) = 1")
        self.refuse(UnknownName, "b", "all x: (p(x) = 1 -> p(b) = 1) -> p(c) = 1")
        self.refuse(UnknownName, "b", "all x: p(b) = 1 -> (p(c) = 1 -> p(x) = 1)")
        self.refuse(UnknownName, "b", "all x: not p(b) = 1 <-> p(c) = 1")
        self.refuse(UnknownName, "b", "all x: p(x) = 1 or p(b) = 1 or p(c) = 1")

    def test_only_without_a_syntax_fault(self):
        for text in ["all x x: true true", "all x: p(y) = 1 ?", "all x: edge(x, x) = ", "all x x y z w: true"]:
            with self.assertRaises(SyntaxFault):
                read_sentence(text)

    def test_relations_are_not_known(self):
        self.assertEqual(read_sentence("all x y: edge(x) = 1 and edge(x, y) = 1")[1][0], "and")


if __name__ == "__main__":
    unittest.main()
