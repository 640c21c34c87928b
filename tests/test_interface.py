"""The interface in DOC.md: names, parameters, and the files that define them."""

import importlib
import inspect
import unittest

FUNCTIONS = {
    "sentences": ["read_sentence(text)", "write_sentence(sentence)", "atoms_of(formula)"],
    "kinds": ["read_kind(text)", "write_kind(kind)", "ready(name)"],
    "places": ["places(relation, point)"],
    "structures": [
        "has_shape(kind, structure)", "value(kind, structure, name, points)", "part(kind, structure, points)",
        "holds(kind, structure, sentence)", "is_of_kind(kind, structure)", "count_layers(kind, point)",
        "layers(kind, point)", "extensions(kind, structure)",
    ],
    "renamings": [
        "is_renaming(names, size)", "inverted(renaming)", "followed(first, second)",
        "renamed(kind, structure, renaming)", "is_symmetry(kind, structure, renaming)",
    ],
    "least": [
        "plain_least(kind, structure)", "least(kind, structure)", "is_least(kind, structure)",
        "symmetries(kind, structure)", "chain(kind, structure)",
    ],
    "group": [
        "order(lists)", "positions(lists, renaming)", "symmetry_number(lists, renaming)", "symmetry_at(lists, number)",
    ],
    "refine": ["cells(kind, structure)"],
    "matching": ["match(kind, one, other)"],
    "counting": ["orbit_count(relations, size)"],
    "tokens": ["tokenize(text)"],
    "census": ["census(kind, size)", "labelled(kind, size)"],
    "obstructions": ["is_obstruction(kind, structure)", "obstructions(kind, size)", "offending(kind, structure)"],
    "walks": ["find(kind, paper, structure)", "same(kind, paper, one, other)", "deck(kind, paper, structure)"],
    "profiles": [
        "occurrences(kind, structure, small)", "profile(kind, paper, structure, size)",
        "embedding(kind, small, structure)", "telling(kind, one, other)",
    ],
    "parts": [
        "largest_part(kind, structure)", "joins(kind, structure, one, other)",
        "with_deck(kind, paper, size, numbers)",
    ],
    "listing": [
        "all_structures(kind, size)", "children(kind, structure)", "first(kind, size)", "following(kind, structure)",
    ],
    "orbits": ["point_orbits(kind, structure)", "kept_count(kind, size, renaming)", "class_count(kind, size)"],
    "papers": ["write_up(kind, size)"],
    "checker": ["weight(item)", "accepts(kind, paper)"],
    "reasons": ["why_refused(kind, paper)"],
    "short": [
        "shorten(kind, paper)", "lengthen(kind, paper)", "accepts_short(kind, paper)",
        "find_short(kind, paper, structure)",
    ],
    "forbidding": ["forbid(relations, structures)", "by_obstructions(kind)"],
    "numbering": ["number_of(kind, paper, structure)", "structure_at(kind, paper, size, number)"],
    "translation": [
        "translated(translation, structure)", "class_map(translation, paper, target_paper, size)",
    ],
    "written": [
        "write_structure(structure)", "read_structure(text)", "write_paper(paper)", "read_paper(text)",
        "audit(kind, text)",
    ],
    "plain": ["plain_census(kind, size)", "plain_symmetries(kind, structure)", "plain_classes(kind, size)"],
}
CLASSES = {
    "errors": [
        "SyntaxFault(place)", "UnknownName(name)", "DuplicateName(name)", "WrongArity(name)",
        "TooManyLayers(count)", "InvalidPaper(line)",
    ],
    "kinds": ["Kind(relations, sentences)"],
    "papers": ["Item(structure, chain, steps)", "Paper(levels)"],
    "translation": ["Translation(source, target, rules)"],
}


def found_in(name, listed):
    """What stands in the module under the name that is listed with its parameters."""
    return getattr(importlib.import_module("oneofeach." + name), listed.partition("(")[0])


class InterfaceTest(unittest.TestCase):

    def test_functions(self):
        for name, all_listed in FUNCTIONS.items():
            for listed in all_listed:
                with self.subTest(module=name, listed=listed):
                    found = found_in(name, listed)
                    self.assertTrue(inspect.isfunction(found))
                    self.assertEqual(found.__module__, "oneofeach." + name)
                    self.assertEqual(found.__name__ + str(inspect.signature(found)), listed)

    def test_classes(self):
        for name, all_listed in CLASSES.items():
            for listed in all_listed:
                with self.subTest(module=name, listed=listed):
                    found = found_in(name, listed)
                    self.assertTrue(inspect.isclass(found))
                    self.assertEqual(found.__module__, "oneofeach." + name)
                    self.assertEqual(found.__name__ + str(inspect.signature(found)), listed)
                    self.assertIn("__init__", vars(found))


if __name__ == "__main__":
    unittest.main()
