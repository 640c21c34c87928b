"""Points 0.3 to 0.5: arguments stay as they were, lists are new, answers are True or False, bounds."""

import copy
import random
import unittest

from calls import ASKING, all_calls
from definitions import BLOCK, EDGE, belongs, satisfies, says, some_structure
from oneofeach.errors import TooManyLayers
from oneofeach.kinds import Kind
from oneofeach.papers import Item, Paper
from oneofeach.renamings import renamed
from oneofeach.structures import count_layers, extensions, holds, is_of_kind, layers, part, value
from oneofeach.translation import Translation
from test_interface import FUNCTIONS

TRIANGLE = ("and", says("edge", (0, 1), 1), ("and", says("edge", (1, 2), 1), says("edge", (0, 2), 1)))


OBJECTS = (Kind, Item, Paper, Translation)


def inside(answer):
    """What stands in a list or a tuple, or in the fields of an object."""
    if isinstance(answer, OBJECTS):
        return list(vars(answer).values())
    return answer if type(answer) in (list, tuple) else []


def spoil(answer):
    """Change each list in an answer, inner lists and those of objects too."""
    for item in inside(answer):
        spoil(item)
    if type(answer) is list:
        answer.append("more")
        answer.reverse()


def lists_in(answer):
    """All lists in an answer, inner lists and those of objects too."""
    inner = [found for each in inside(answer) for found in lists_in(each)]
    return [answer] + inner if type(answer) is list else inner


def shown(argument):
    """The argument, with dicts of fields for objects."""
    if isinstance(argument, OBJECTS):
        return {name: shown(held) for name, held in vars(argument).items()}
    return type(argument)(shown(each) for each in argument) if type(argument) in (list, tuple) else argument


class ArgumentsTest(unittest.TestCase):

    def test_each_function_is_called(self):
        called = {(function.__module__, function.__name__) for _, function, _ in all_calls(random.Random(19))}
        for name, all_listed in FUNCTIONS.items():
            for listed in all_listed:
                self.assertIn(("oneofeach." + name, listed.partition("(")[0]), called)

    def test_arguments_stay_as_they_were(self):
        for name, function, arguments in all_calls(random.Random(20)):
            with self.subTest(kind=name, function=function.__name__):
                before = copy.deepcopy(shown(arguments))
                function(*arguments)
                self.assertEqual(shown(arguments), before)

    def test_equal_questions_have_equal_answers(self):
        for name, function, arguments in all_calls(random.Random(21)):
            with self.subTest(kind=name, function=function.__name__):
                answer = function(*arguments)
                expected = copy.deepcopy(shown(answer))
                spoil(answer)
                self.assertEqual(shown(function(*arguments)), expected)

    def test_no_list_stands_twice_in_an_answer(self):
        for name, function, arguments in all_calls(random.Random(22)):
            with self.subTest(kind=name, function=function.__name__):
                found = lists_in(function(*arguments))
                self.assertEqual(len(set(id(each) for each in found)), len(found))

    def test_lists_of_the_arguments_are_not_returned(self):
        for name, function, arguments in all_calls(random.Random(23)):
            given = lists_in(arguments)
            with self.subTest(kind=name, function=function.__name__):
                for found in lists_in(function(*arguments)):
                    self.assertFalse(any(found is each for each in given))

    def test_truth_values(self):
        for name, function, arguments in all_calls(random.Random(24)):
            with self.subTest(kind=name, function=function.__name__):
                self.assertEqual(type(function(*arguments)) is bool, function in ASKING)


class BoundsTest(unittest.TestCase):

    def test_seven_points(self):
        kind = Kind([EDGE, BLOCK], [])
        chance = random.Random(24)
        structure = some_structure(kind, 7, chance)
        turned = renamed(kind, structure, (6, 5, 4, 3, 2, 1, 0))
        self.assertIs(is_of_kind(kind, turned), True)
        self.assertEqual(part(kind, turned, [6, 5, 4, 3, 2, 1, 0]), structure)
        self.assertEqual(value(kind, turned, "block", (0, 1, 2)), value(kind, structure, "block", (6, 5, 4)))

    def test_a_thousand_sentences(self):
        kind = Kind([EDGE], [(3, ("not", TRIANGLE))] * 999 + [(2, ("is", "edge", (0, 1), 0))])
        empty = tuple(((0,) * point,) for point in range(7))
        self.assertIs(is_of_kind(kind, empty), True)
        self.assertIs(is_of_kind(kind, empty[:6] + (((0, 0, 0, 0, 0, 1),),)), False)
        self.assertEqual(extensions(kind, empty[:6]), [((0,) * 6,)])

    def test_formulas_of_depth_40(self):
        chance = random.Random(26)
        for _ in range(20):
            formula = says("edge", (0, 1), 1)
            for _ in range(39):
                other = says("edge", tuple(chance.sample(range(3), 2)), chance.randrange(2))
                formula = chance.choice([("not", formula), ("same", other, formula), ("implies", formula, other)])
            kind = Kind([EDGE], [(3, formula)])
            for structure in [(((),), ((1,),), ((1, 1),)), (((),), ((1,),), ((1, 0),))]:
                self.assertIs(is_of_kind(kind, structure), belongs(kind, structure))
                self.assertEqual(structure[2] in extensions(kind, structure[:2]), belongs(kind, structure))

    def test_formulas_of_500_nodes(self):
        chance = random.Random(25)
        for _ in range(20):
            parts = [says("edge", tuple(chance.sample(range(4), 2)), chance.randrange(2)) for _ in range(250)]
            while len(parts) > 1:
                head = chance.choice(["and", "or", "implies", "same"])
                parts.append((head, parts.pop(0), parts.pop(0)))
            kind = Kind([EDGE], [(4, parts[0])])
            structure = some_structure(kind, 4, chance)
            self.assertIs(holds(kind, structure, kind.sentences[0]), satisfies(kind, structure, kind.sentences[0]))
            found = [layer for layer in layers(kind, 3) if belongs(kind, structure[:3] + (layer,))]
            self.assertEqual(extensions(kind, structure[:3]), found)

    def test_numbers_of_layers_of_thousands_of_digits(self):
        values = 700000000
        kind = Kind([(name, 3, values, False) for name in "abcde"], [])
        self.assertEqual(count_layers(kind, 6), values ** 450)
        with self.assertRaises(TooManyLayers) as held:
            layers(kind, 6)
        self.assertEqual(held.exception.count, values ** 450)
        self.assertGreater(held.exception.count, 10 ** 3900)


if __name__ == "__main__":
    unittest.main()
