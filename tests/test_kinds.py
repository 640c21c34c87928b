"""Point 1.8: making a kind."""

import unittest

from definitions import ARC, BLOCK, EDGE, says
from oneofeach.errors import DuplicateName, UnknownName, WrongArity
from oneofeach.kinds import Kind


class KindTest(unittest.TestCase):

    def refuse(self, error, name, relations, sentences):
        with self.assertRaises(error) as held:
            Kind(relations, sentences)
        self.assertIs(type(held.exception), error)
        self.assertEqual(held.exception.name, name)

    def test_fields(self):
        relations = [EDGE, ("colour", 1, 3, False)]
        sentences = [(2, says("edge", (0, 1), 1)), (4, ("true",)), (2, says("edge", (0, 1), 1))]
        kind = Kind(relations, sentences)
        self.assertEqual(vars(kind), {"relations": relations, "sentences": sentences})
        self.assertIs(type(kind.relations), list)
        self.assertIs(type(kind.sentences), list)

    def test_keywords(self):
        kind = Kind(sentences=[(1, ("true",))], relations=[EDGE])
        self.assertEqual((kind.relations, kind.sentences), ([EDGE], [(1, ("true",))]))

    def test_nothing(self):
        kind = Kind([], [])
        self.assertEqual((kind.relations, kind.sentences), ([], []))

    def test_lists_are_copied_and_not_modified(self):
        relations, sentences = [EDGE], [(1, ("true",))]
        kind = Kind(relations, sentences)
        self.assertEqual((relations, sentences), ([EDGE], [(1, ("true",))]))
        relations.append(ARC)
        sentences.clear()
        self.assertEqual((kind.relations, kind.sentences), ([EDGE], [(1, ("true",))]))

    def test_no_equality_of_its_own(self):
        self.assertNotEqual(Kind([EDGE], []), Kind([EDGE], []))

    def test_duplicate_names(self):
        self.refuse(DuplicateName, "edge", [EDGE, ARC, ("edge", 1, 2, False), ARC], [])
        self.refuse(DuplicateName, "b", [(name, 1, 2, True) for name in "abcba"], [])

    def test_duplicate_names_before_sentences(self):
        self.refuse(DuplicateName, "edge", [EDGE, EDGE], [(1, says("none", (0,), 1))])

    def test_unknown_names(self):
        self.refuse(UnknownName, "arc", [EDGE], [(2, says("arc", (0, 1), 1))])
        self.refuse(UnknownName, "edge", [], [(2, says("edge", (0, 1), 1))])
        self.refuse(UnknownName, "arc", [EDGE], [(2, ("not", ("or", ("true",), says("arc", (0, 1), 1))))])

    def test_unknown_name_before_wrong_arity_of_one_atom(self):
        self.refuse(UnknownName, "arc", [EDGE], [(3, says("arc", (0, 1, 2), 1))])

    def test_wrong_arity(self):
        self.refuse(WrongArity, "edge", [EDGE], [(1, says("edge", (0,), 1))])
        self.refuse(WrongArity, "edge", [EDGE], [(3, says("edge", (0, 1, 2), 1))])
        self.refuse(WrongArity, "block", [EDGE, BLOCK], [(3, says("block", (0, 1), 1))])
        self.refuse(WrongArity, "colour", [("colour", 1, 2, True)], [(2, says("colour", (0, 1), 1))])

    def test_first_error_of_all(self):
        right, wrong, unknown = says("edge", (0, 1), 1), says("edge", (0,), 1), says("arc", (0, 1), 1)
        other = says("other", (0,), 0)
        self.refuse(WrongArity, "edge", [EDGE], [(2, right), (2, ("and", wrong, unknown))])
        self.refuse(UnknownName, "arc", [EDGE], [(2, right), (2, ("and", unknown, wrong))])
        self.refuse(UnknownName, "other", [EDGE], [(2, right), (1, other), (2, wrong), (2, unknown)])
        self.refuse(UnknownName, "arc", [EDGE], [(2, ("same", ("or", right, unknown), other))])

    def test_values_that_the_relation_does_not_have(self):
        sentence = (2, says("edge", (0, 1), 7))
        self.assertEqual(Kind([EDGE], [sentence]).sentences, [sentence])


if __name__ == "__main__":
    unittest.main()
