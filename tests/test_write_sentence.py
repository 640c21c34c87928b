"""Point 1.7: writing sentences."""

import random
import unittest

from definitions import mixed_relations, says, some_formula
from oneofeach.sentences import read_sentence, write_sentence

A, B, C = [says("p", (number,), 1) for number in range(3)]
WRITTEN = {"same": "<->", "implies": "->", "or": "or", "and": "and"}

# The operands that need brackets, for each place.
IN_BRACKETS = {
    ("same", "left"): [],
    ("same", "right"): ["same"],
    ("implies", "left"): ["same", "implies"],
    ("implies", "right"): ["same"],
    ("or", "left"): ["same", "implies"],
    ("or", "right"): ["same", "implies", "or"],
    ("and", "left"): ["same", "implies", "or"],
    ("and", "right"): ["same", "implies", "or", "and"],
    ("not", "only"): ["same", "implies", "or", "and"],
}


def written(formula):
    """The text of a formula of three variables, with letters in the place of atoms."""
    text = write_sentence((3, formula))
    assert text.startswith("all x y z: ")
    for letter, name in [("A", "x"), ("B", "y"), ("C", "z")]:
        text = text.replace(f"p({name}) = 1", letter)
    return text[len("all x y z: "):]


class WriteTest(unittest.TestCase):

    def test_counts(self):
        for count, expected in [
            (1, "all x: true"), (2, "all x y: true"), (3, "all x y z: true"), (4, "all x y z w: true"),
        ]:
            self.assertEqual(write_sentence((count, ("true",))), expected)

    def test_the_example(self):
        formula = ("implies", says("edge", (0, 1), 1), says("edge", (1, 0), 1))
        self.assertEqual(write_sentence((2, formula)), "all x y: edge(x, y) = 1 -> edge(y, x) = 1")

    def test_atoms(self):
        self.assertEqual(write_sentence((1, ("false",))), "all x: false")
        self.assertEqual(write_sentence((1, says("p", (0,), 0))), "all x: p(x) = 0")
        self.assertEqual(write_sentence((4, says("t_1", (3, 0, 2), 999999999))), "all x y z w: t_1(w, x, z) = 999999999")
        self.assertEqual(write_sentence((4, says("e", (1, 3), 10))), "all x y z w: e(y, w) = 10")

    def test_each_operator(self):
        for head, sign in WRITTEN.items():
            self.assertEqual(written((head, A, B)), f"A {sign} B")
            self.assertEqual(written((head, ("true",), ("false",))), f"true {sign} false")
        self.assertEqual(written(("not", A)), "not A")

    def test_each_operand_of_each_operator(self):
        for head, sign in WRITTEN.items():
            for inner, inner_sign in WRITTEN.items():
                shown = f"A {inner_sign} B"
                left = f"({shown})" if inner in IN_BRACKETS[head, "left"] else shown
                self.assertEqual(written((head, (inner, A, B), C)), f"{left} {sign} C")
                right = f"({shown})" if inner in IN_BRACKETS[head, "right"] else shown
                self.assertEqual(written((head, C, (inner, A, B))), f"C {sign} {right}")
            self.assertEqual(written((head, ("not", A), ("not", B))), f"not A {sign} not B")

    def test_each_operand_of_not(self):
        for inner, sign in WRITTEN.items():
            self.assertIn(inner, IN_BRACKETS["not", "only"])
            self.assertEqual(written(("not", (inner, A, B))), f"not (A {sign} B)")
        self.assertEqual(written(("not", ("not", A))), "not not A")
        self.assertEqual(written(("not", ("not", ("and", A, B)))), "not not (A and B)")
        self.assertEqual(written(("not", ("true",))), "not true")

    def test_longer_ones(self):
        self.assertEqual(written(("and", ("and", A, B), C)), "A and B and C")
        self.assertEqual(written(("implies", A, ("implies", B, C))), "A -> B -> C")
        self.assertEqual(
            written(("implies", ("implies", A, B), ("implies", ("not", C), ("same", A, B)))),
            "(A -> B) -> not C -> (A <-> B)",
        )
        self.assertEqual(
            written(("same", ("same", A, ("and", B, ("or", C, A))), ("implies", B, C))),
            "A <-> B and (C or A) <-> B -> C",
        )

    def test_read_again(self):
        chance = random.Random(210)
        for _ in range(600):
            count = chance.randrange(1, 5)
            sentence = (count, some_formula(mixed_relations(), count, 5, chance))
            self.assertEqual(read_sentence(write_sentence(sentence)), sentence)

    def test_no_brackets_without_need(self):
        chance = random.Random(211)
        pairs = 0
        for _ in range(150):
            sentence = (1, some_formula([("p", 1, 2, False)], 1, 5, chance))
            text = write_sentence(sentence).replace("p(x) = ", "p[x] = ")
            for start, end in bracket_pairs(text):
                pairs += 1
                shorter = text[:start] + text[start + 1:end] + text[end + 1:]
                shorter = shorter.replace("[", "(").replace("]", ")")
                self.assertNotEqual(read_sentence(shorter), sentence, shorter)
        self.assertGreater(pairs, 100)

    def test_no_bounds(self):
        formula = ("true",)
        for _ in range(39):
            formula = ("implies", formula, ("true",))
        text = write_sentence((4, formula))
        self.assertEqual(text, "all x y z w: " + "(" * 38 + "true -> true" + ") -> true" * 38)
        wide = A
        for _ in range(249):
            wide = ("and", wide, A)
        self.assertEqual(written(wide), "A" + " and A" * 249)


def bracket_pairs(text):
    """The pairs of places of brackets that belong together."""
    found, begun = [], []
    for place, sign in enumerate(text):
        if sign == "(":
            begun.append(place)
        if sign == ")":
            found.append((begun.pop(), place))
    return found


if __name__ == "__main__":
    unittest.main()
