"""Point 2.5: TooManyLayers in each function for which it is named, with the count of the first point."""

import unittest

from definitions import says
from oneofeach.census import census, labelled
from oneofeach.checker import accepts
from oneofeach.errors import TooManyLayers
from oneofeach.forbidding import by_obstructions
from oneofeach.kinds import Kind
from oneofeach.listing import all_structures, children, first
from oneofeach.obstructions import obstructions
from oneofeach.papers import Item, Paper, write_up
from oneofeach.parts import joins
from oneofeach.reasons import why_refused
from oneofeach.short import accepts_short
from oneofeach.structures import extensions, layers
from oneofeach.written import audit, write_paper

WITH_SIZES = [census, labelled, write_up, all_structures, first, obstructions]
WITH_PAPERS = [accepts, accepts_short, why_refused]
NEVER = (1, ("false",))

# Relations, the first point at which they have too many layers, and how many they have there and at the next point.
RELATIONS = [
    ([("mark", 1, 4097, False)], 0, 4097, 4097),
    ([("mark", 1, 2, True), ("arc", 2, 46, False)], 1, 2 * 46 ** 2, 2 * 46 ** 4),
    ([("edge", 2, 65, True)], 2, 65 ** 2, 65 ** 3),
    ([("turn", 3, 2, False)], 3, 2 ** 18, 2 ** 36),
    ([("block", 3, 4, True), ("edge", 2, 2, True)], 4, 4 ** 6 * 2 ** 4, 4 ** 10 * 2 ** 5),
    ([("block", 3, 3, True)], 5, 3 ** 10, 3 ** 15),
    ([("edge", 2, 2, True), ("arc", 2, 2, False)], 5, 2 ** 15, 2 ** 18),
    ([("edge", 2, 5, True)], 6, 5 ** 6, 5 ** 7),
]


class TooManyLayersTest(unittest.TestCase):

    def raises(self, count, function, *arguments):
        """Check the error and its count."""
        with self.assertRaises(TooManyLayers) as held:
            function(*arguments)
        self.assertIs(type(held.exception), TooManyLayers)
        self.assertEqual(held.exception.count, count)

    def test_functions_of_sizes(self):
        for relations, point, count, _ in RELATIONS:
            for sentences in [[NEVER], [(1, ("true",)), NEVER], [(2, ("false",))]]:
                kind = Kind(relations, sentences)
                for function in WITH_SIZES:
                    for size in range(point + 1, 8):
                        self.raises(count, function, kind, size)
            # Up to the point itself there is no error, and no structure either.
            for function in WITH_SIZES:
                function(Kind(relations, [NEVER]), point)

    def test_functions_of_sizes_without_sentences(self):
        for relations, point, count, _ in RELATIONS:
            for function in WITH_SIZES:
                self.raises(count, function, Kind(relations, []), point + 1)
                self.raises(count, function, Kind(relations, []), 7)

    def test_up_to_four_points(self):
        for relations, point, count, _ in RELATIONS:
            kind = Kind(relations, [NEVER])
            if point < 4:
                self.raises(count, by_obstructions, kind)
                self.raises(count, by_obstructions, Kind(relations, []))
            else:
                self.assertEqual(by_obstructions(Kind(relations, [])).sentences, [])

    def test_layers_extensions_and_children(self):
        for relations, point, count, following in RELATIONS:
            kind = Kind(relations, [])
            self.raises(count, layers, kind, point)
            self.raises(following, layers, kind, point + 1)
            structure = tuple(layers(kind, number)[0] for number in range(point))
            for sentences in [[], [(4, ("false",))] if point < 4 else [(1, ("true",))]]:
                self.raises(count, extensions, Kind(relations, sentences), structure)
                self.raises(count, children, Kind(relations, sentences), structure)

    def test_joins(self):
        for relations, point, count, following in RELATIONS:
            kind = Kind(relations, [])
            if point > 0:
                structure = tuple(layers(kind, number)[0] for number in range(point))
                self.raises(count, joins, kind, structure[:-1], structure[-1], structure[-1])
        # The layers at the point of the first extension itself do not matter.
        kind = Kind([("mark", 1, 4097, False)], [(1, says("mark", (0,), 5))])
        self.raises(4097, joins, kind, (), ((5,),), ((5,),))

    def test_functions_of_papers(self):
        item = Item((), [], [])
        for relations, point, count, following in RELATIONS:
            for sentences in [[], [NEVER]]:
                kind = Kind(relations, sentences)
                levels = [[]] * point + [[item], []]
                for function in WITH_PAPERS:
                    self.raises(count, function, kind, Paper(levels))
                    if point < 6:
                        self.raises(count, function, kind, Paper(levels[:-1] + [[item], []]))
                        self.raises(following, function, kind, Paper([[]] + levels))
                    self.assertTrue(function(kind, Paper(levels[:-1])) in (True, False, (0, 0, "start"), None))

    def test_audit(self):
        for relations, point, count, _ in RELATIONS:
            for sentences in [[], [NEVER]]:
                kind = Kind(relations, sentences)
                item = Item(((),) * point, [[(0,)]] * point, [])
                text = write_paper(Paper([[]] * point + [[item], []]))
                self.raises(count, audit, kind, text)
                self.assertEqual(audit(kind, text + "\n"), "refused")
                self.assertEqual(audit(kind, text.rpartition("\n")[0]), "accepted" if point == 0 else "refused")


if __name__ == "__main__":
    unittest.main()
