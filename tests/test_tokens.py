"""Point 1.4."""

import random
import re
import unittest

from oneofeach.errors import SyntaxFault
from oneofeach.tokens import tokenize

WORDS = ["all", "true", "false", "not", "and", "or", "relation", "values", "symmetric"]
SIGNS = ["(", ")", ",", ":", "=", "->", "<->"]


def tokens_by_pattern(text):
    """The tokens, or the place of the first fault as an integer."""
    found = []
    place = 0
    while place < len(text):
        run = re.match("[A-Za-z0-9_]+", text[place:])
        sign = re.match("<->|->|[(),:=]", text[place:])
        if text[place] == " ":
            place += 1
            continue
        if run and re.fullmatch("[0-9]{1,9}", run[0]):
            found.append(("number", int(run[0]), place))
        elif run and re.fullmatch("[a-z][A-Za-z0-9_]*", run[0]):
            found.append(("word" if run[0] in WORDS else "name", run[0], place))
        elif sign:
            run = sign
            found.append(("sign", sign[0], place))
        elif text[place] == "\n":
            run = "\n"
            found.append(("line", "", place))
        else:
            return place
        place += len(run[0])
    return found + [("end", "", len(text))]


class TokenizeTest(unittest.TestCase):

    def fault(self, text, place):
        """Check that the text has its first fault at the place."""
        with self.assertRaises(SyntaxFault) as held:
            tokenize(text)
        self.assertEqual(held.exception.place, place, repr(text))

    def test_a_sentence(self):
        self.assertEqual(tokenize("all x y: edge(x, y) = 1 -> true"), [
            ("word", "all", 0), ("name", "x", 4), ("name", "y", 6), ("sign", ":", 7), ("name", "edge", 9),
            ("sign", "(", 13), ("name", "x", 14), ("sign", ",", 15), ("name", "y", 17), ("sign", ")", 18),
            ("sign", "=", 20), ("number", 1, 22), ("sign", "->", 24), ("word", "true", 27), ("end", "", 31),
        ])

    def test_lines(self):
        self.assertEqual(tokenize("\nrelation edge 2\n \nvalues"), [
            ("line", "", 0), ("word", "relation", 1), ("name", "edge", 10), ("number", 2, 15), ("line", "", 16),
            ("line", "", 18), ("word", "values", 19), ("end", "", 25),
        ])

    def test_the_empty_text_and_spaces(self):
        for length in range(4):
            self.assertEqual(tokenize(" " * length), [("end", "", length)])
        self.assertEqual(tokenize("  x  "), [("name", "x", 2), ("end", "", 5)])

    def test_lists_and_tuples(self):
        found = tokenize("all x")
        self.assertIs(type(found), list)
        self.assertTrue(all(type(token) is tuple for token in found))
        found.append("more")
        self.assertEqual(len(tokenize("all x")), 3)

    def test_words(self):
        for word in WORDS:
            self.assertEqual(tokenize(word), [("word", word, 0), ("end", "", len(word))])
            for name in [word + "s", word + "_", word + "1", word + "X", word[:-1] + "0", word * 2, "x" + word]:
                self.assertEqual(tokenize(name), [("name", name, 0), ("end", "", len(name))])
            for wrong in [word.upper(), word.title(), "_" + word]:
                self.fault(wrong, 0)

    def test_names(self):
        for name in ["x", "z", "edge", "aZ_09", "a__", "al", "allx", "o", "nota", "x" * 1000]:
            self.assertEqual(tokenize(name), [("name", name, 0), ("end", "", len(name))])

    def test_signs(self):
        for sign in SIGNS:
            self.assertEqual(tokenize(sign), [("sign", sign, 0), ("end", "", len(sign))])
        found = tokenize("<->->()=:,<->")
        self.assertEqual([token[1] for token in found], ["<->", "->", "(", ")", "=", ":", ",", "<->", ""])
        self.assertEqual([token[2] for token in found], [0, 3, 5, 6, 7, 8, 9, 10, 13])

    def test_parts_of_arrows(self):
        for text in ["-", "<", "<-", "- >", "< ->", "<- >", "-x", "<x", "<<->", "--", "-->", "<-x", "<=", "-<->", "<>"]:
            self.fault(text, 0)
            self.fault("x " + text, 2)
        self.fault(">", 0)
        self.fault("->>", 2)
        self.fault("<->>", 3)
        self.fault("<--", 0)
        self.fault("a -", 2)
        self.fault("a<", 1)
        self.fault("a<-\n", 1)

    def test_numbers(self):
        for text, number in [("0", 0), ("7", 7), ("007", 7), ("000000000", 0), ("123456789", 123456789)]:
            self.assertEqual(tokenize(text), [("number", number, 0), ("end", "", len(text))])
            self.assertIs(type(tokenize(text)[0][1]), int)
        self.assertEqual(tokenize("1 2"), [("number", 1, 0), ("number", 2, 2), ("end", "", 3)])
        self.assertEqual(tokenize("=12)"), [("sign", "=", 0), ("number", 12, 1), ("sign", ")", 3), ("end", "", 4)])

    def test_nine_and_ten_digits(self):
        self.assertEqual(tokenize("999999999 ")[0], ("number", 999999999, 0))
        for text in ["1234567890", "0000000001", "0" * 50, "9999999999 ", "1234567890x"]:
            self.fault(text, 0)
            self.fault("x\n" + text, 2)

    def test_digits_before_letters_and_underscores(self):
        for text in ["1x", "1_", "12A", "1all", "123456789_", "0x0"]:
            self.fault(text, 0)
            self.fault("( " + text, 2)
        self.assertEqual(tokenize("1(")[0], ("number", 1, 0))

    def test_candidates_that_are_no_names(self):
        for text in ["X", "_", "_x", "Edge", "X1", "_1", "All", "TRUE"]:
            self.fault(text, 0)
            self.fault("x, " + text, 3)

    def test_each_other_character(self):
        right = set("abcdefghijklmnopqrstuvwxyz0123456789(),:= \n")
        for code in [9] + list(range(32, 127)) + [10]:
            character = chr(code)
            if character in right:
                tokenize(character)
            else:
                self.fault(character, 0)
                self.fault("x " + character + " x", 2)
                self.fault("true\n" + character, 5)

    def test_tabs_are_no_spaces(self):
        self.fault("\t", 0)
        self.fault("all\tx", 3)
        self.fault("x \t", 2)

    def test_the_first_fault_counts(self):
        self.fault("x 1y X", 2)
        self.fault("x X 1y", 2)
        self.fault("x ! 1y", 2)
        self.fault("all x: 1234567890 #", 7)
        self.fault("xy+", 2)
        self.fault("12+", 2)

    def test_against_patterns(self):
        chance = random.Random(90)
        pieces = WORDS + SIGNS + ["x", "Y", "_", "12", "0", "123456789", " ", "\n", "-", "<", ">", "\t", "al", "!", "9"]
        faults = 0
        for _ in range(3000):
            text = "".join(chance.choice(pieces) for _ in range(chance.randrange(8)))
            expected = tokens_by_pattern(text)
            if type(expected) is int:
                faults += 1
                self.fault(text, expected)
            else:
                self.assertEqual(tokenize(text), expected)
        self.assertTrue(500 < faults < 2500)

    def test_long_texts(self):
        text = "(" * 5000 + " ) -> x1 = 25\n" * 5000
        self.assertEqual(tokenize(text), tokens_by_pattern(text[:5000])[:-1] + [
            (kind, worth, place + 5000) for kind, worth, place in tokenize(text[5000:])
        ])
        self.assertEqual(len(tokenize(text)), 5000 + 6 * 5000 + 1)


if __name__ == "__main__":
    unittest.main()
