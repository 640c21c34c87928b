"""Points 0.3 to 0.5: arguments stay as they were, lists are new, answers are True or False, bounds."""

import copy
import random
import unittest

from definitions import BLOCK, EDGE, belongs, sample_kinds, satisfies, says, some_structure
from oneofeach.counting import orbit_count
from oneofeach.errors import TooManyLayers
from oneofeach.group import order, positions, symmetry_at, symmetry_number
from oneofeach.kinds import Kind
from oneofeach.least import chain, is_least, least, plain_least, symmetries
from oneofeach.matching import match
from oneofeach.places import places
from oneofeach.refine import cells
from oneofeach.renamings import followed, inverted, is_renaming, is_symmetry, renamed
from oneofeach.structures import (
    count_layers, extensions, has_shape, holds, is_of_kind, layers, part, value,
)

TRIANGLE = ("and", says("edge", (0, 1), 1), ("and", says("edge", (1, 2), 1), says("edge", (0, 2), 1)))


def calls(kind, chance):
    """Functions with arguments of each kind of value, for structures with 3 points."""
    structure = some_structure(kind, 3, chance)
    found = [
        (has_shape, [kind, structure]), (is_of_kind, [kind, structure]), (part, [kind, structure, [2, 0]]),
        (holds, [kind, structure, (2, ("true",))]), (count_layers, [kind, 3]),
        (is_renaming, [(0, 2, 1), 3]), (inverted, [(1, 2, 0)]), (followed, [(1, 2, 0), (0, 2, 1)]),
        (renamed, [kind, structure, (1, 2, 0)]), (is_symmetry, [kind, structure, (1, 2, 0)]),
    ]
    found.extend(calls_of_classes(kind, structure))
    for name, arity, values, symmetric in kind.relations:
        found.append((places, [(name, arity, values, symmetric), 3]))
        found.append((value, [kind, structure, name, (2, 0, 1)[:arity]]))
    for point in range(3):
        if count_layers(kind, point) <= 4096:
            found.append((layers, [kind, point]))
            if belongs(kind, structure[:point]):
                found.append((extensions, [kind, structure[:point]]))
    return found


def calls_of_classes(kind, structure):
    """Functions about least structures, symmetries, cells, matches and counts with arguments."""
    lists = [[(0, 1, 2), (1, 2, 0), (2, 1, 0)], [(0, 1, 2), (0, 2, 1)], [(0, 1, 2)]]
    return [
        (plain_least, [kind, structure]), (least, [kind, structure]), (is_least, [kind, structure]),
        (symmetries, [kind, structure]), (chain, [kind, structure]), (cells, [kind, structure]),
        (match, [kind, structure, renamed(kind, structure, (1, 2, 0))]), (orbit_count, [kind.relations, 3]),
        (order, [lists]), (positions, [lists, (2, 0, 1)]), (symmetry_number, [lists, (2, 0, 1)]),
        (symmetry_at, [lists, 3]), (positions, [[[(0, 1)], [(0, 1)]], (1, 0)]),
    ]


def spoil(answer):
    """Change each list in an answer, inner lists too."""
    if type(answer) in (list, tuple):
        for item in answer:
            spoil(item)
    if type(answer) is list:
        answer.append("more")
        answer.reverse()


def plain(argument):
    """The argument, or the fields of a kind."""
    return vars(argument) if isinstance(argument, Kind) else argument


class ArgumentsTest(unittest.TestCase):

    def test_arguments_stay_as_they_were(self):
        for name, kind in sample_kinds().items():
            for function, arguments in calls(kind, random.Random(20)):
                with self.subTest(kind=name, function=function.__name__):
                    before = copy.deepcopy([plain(argument) for argument in arguments])
                    function(*arguments)
                    self.assertEqual([plain(argument) for argument in arguments], before)

    def test_equal_questions_have_equal_answers(self):
        for name, kind in sample_kinds().items():
            for function, arguments in calls(kind, random.Random(21)):
                with self.subTest(kind=name, function=function.__name__):
                    answer = function(*arguments)
                    expected = copy.deepcopy(answer)
                    spoil(answer)
                    self.assertEqual(function(*arguments), expected)

    def test_lists_of_the_kind_are_not_returned(self):
        for kind in sample_kinds().values():
            for function, arguments in calls(kind, random.Random(22)):
                answer = function(*arguments)
                for given in arguments + [kind.relations, kind.sentences]:
                    self.assertFalse(type(answer) is list and answer is given)

    def test_truth_values(self):
        asked = (has_shape, is_of_kind, holds, is_renaming, is_symmetry, is_least)
        for kind in sample_kinds().values():
            for function, arguments in calls(kind, random.Random(23)):
                self.assertEqual(type(function(*arguments)) is bool, function in asked)


class BoundsTest(unittest.TestCase):

    def test_seven_points(self):
        kind = Kind([EDGE, BLOCK], [])
        chance = random.Random(24)
        structure = some_structure(kind, 7, chance)
        turned = renamed(kind, structure, (6, 5, 4, 3, 2, 1, 0))
        self.assertIs(is_of_kind(kind, turned), True)
        self.assertEqual(part(kind, turned, [6, 5, 4, 3, 2, 1, 0]), structure)
        self.assertEqual(value(kind, turned, "block", (0, 1, 2)), value(kind, structure, "block", (6, 5, 4)))

    def test_a_thousand_sentences(self):
        kind = Kind([EDGE], [(3, ("not", TRIANGLE))] * 999 + [(2, ("is", "edge", (0, 1), 0))])
        empty = tuple(((0,) * point,) for point in range(7))
        self.assertIs(is_of_kind(kind, empty), True)
        self.assertIs(is_of_kind(kind, empty[:6] + (((0, 0, 0, 0, 0, 1),),)), False)
        self.assertEqual(extensions(kind, empty[:6]), [((0,) * 6,)])

    def test_formulas_of_depth_40(self):
        chance = random.Random(26)
        for _ in range(20):
            formula = says("edge", (0, 1), 1)
            for _ in range(39):
                other = says("edge", tuple(chance.sample(range(3), 2)), chance.randrange(2))
                formula = chance.choice([("not", formula), ("same", other, formula), ("implies", formula, other)])
            kind = Kind([EDGE], [(3, formula)])
            for structure in [(((),), ((1,),), ((1, 1),)), (((),), ((1,),), ((1, 0),))]:
                self.assertIs(is_of_kind(kind, structure), belongs(kind, structure))
                self.assertEqual(structure[2] in extensions(kind, structure[:2]), belongs(kind, structure))

    def test_formulas_of_500_nodes(self):
        chance = random.Random(25)
        for _ in range(20):
            parts = [says("edge", tuple(chance.sample(range(4), 2)), chance.randrange(2)) for _ in range(250)]
            while len(parts) > 1:
                head = chance.choice(["and", "or", "implies", "same"])
                parts.append((head, parts.pop(0), parts.pop(0)))
            kind = Kind([EDGE], [(4, parts[0])])
            structure = some_structure(kind, 4, chance)
            self.assertIs(holds(kind, structure, kind.sentences[0]), satisfies(kind, structure, kind.sentences[0]))
            found = [layer for layer in layers(kind, 3) if belongs(kind, structure[:3] + (layer,))]
            self.assertEqual(extensions(kind, structure[:3]), found)

    def test_numbers_of_layers_of_thousands_of_digits(self):
        values = 700000000
        kind = Kind([(name, 3, values, False) for name in "abcde"], [])
        self.assertEqual(count_layers(kind, 6), values ** 450)
        with self.assertRaises(TooManyLayers) as held:
            layers(kind, 6)
        self.assertEqual(held.exception.count, values ** 450)
        self.assertGreater(held.exception.count, 10 ** 3900)


if __name__ == "__main__":
    unittest.main()
