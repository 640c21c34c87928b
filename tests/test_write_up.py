"""Points 6.1 and 6.4: the paper of a kind."""

import unittest

from by_hand import listed_census, listed_extensions, reason_by_hand, small_kinds
from classes import is_chain, least_form
from definitions import ready_kinds, renamed_by, sample_kinds, says
from oneofeach.census import census
from oneofeach.checker import accepts
from oneofeach.errors import TooManyLayers
from oneofeach.kinds import Kind
from oneofeach.papers import Item, Paper, write_up

TURN = ("turn", 3, 2, False)


class WriteUpTest(unittest.TestCase):

    def test_kinds_of_values(self):
        paper = write_up(ready_kinds()["graphs"], 2)
        self.assertIs(type(paper), Paper)
        self.assertIs(type(paper.levels), list)
        for level in paper.levels:
            self.assertIs(type(level), list)
            for item in level:
                self.assertIs(type(item), Item)
                self.assertIs(type(item.structure), tuple)
                self.assertEqual({type(row) for row in item.chain} | {list}, {list})
                self.assertEqual({type(names) for row in item.chain for names in row} | {tuple}, {tuple})
                self.assertEqual([tuple(type(part) for part in step) for step in item.steps],
                                 [(tuple, int, tuple)] * len(item.steps))

    def test_graphs_up_to_two_points(self):
        paper = write_up(ready_kinds()["graphs"], 2)
        empty, edge = (((),), ((0,),)), (((),), ((1,),))
        self.assertEqual([[item.structure for item in level] for level in paper.levels], [[()], [(((),),)], [empty, edge]])
        self.assertEqual([item.chain for level in paper.levels[:2] for item in level], [[], [[(0,)]]])
        self.assertEqual([item.chain for item in paper.levels[2]], [[[(0, 1), (1, 0)], [(0, 1)]]] * 2)
        self.assertEqual(paper.levels[0][0].steps, [(((),), 0, (0,))])
        self.assertEqual([step[:2] for step in paper.levels[1][0].steps], [(((0,),), 0), (((1,),), 1)])
        self.assertEqual([item.steps for item in paper.levels[2]], [[], []])

    def test_against_the_definition(self):
        for kind, size in small_kinds():
            with self.subTest(relations=kind.relations, sentences=kind.sentences):
                paper = write_up(kind, size)
                found = [[item.structure for item in level] for level in paper.levels]
                self.assertEqual(found, listed_census(kind, size))
                for number, level in enumerate(paper.levels):
                    for item in level:
                        self.assertTrue(is_chain(kind, item.structure, item.chain))
                        if number < size:
                            self.check_steps(kind, item, found[number + 1])
                        else:
                            self.assertEqual(item.steps, [])

    def check_steps(self, kind, item, following):
        """Check that each step has the least form."""
        self.assertEqual([step[0] for step in item.steps], listed_extensions(kind, item.structure))
        for layer, number, names in item.steps:
            longer = item.structure + (layer,)
            self.assertEqual(following[number], least_form(kind, longer)[0])
            self.assertEqual(renamed_by(kind, longer, names), following[number])

    def test_it_is_accepted(self):
        for kind, size in small_kinds():
            for most in range(size + 1):
                paper = write_up(kind, most)
                self.assertEqual(len(paper.levels), most + 1)
                self.assertIsNone(reason_by_hand(kind, paper))
                self.assertIs(accepts(kind, paper), True)

    def test_larger_ones(self):
        for name, size in [("graphs", 6), ("trianglefree", 7), ("equivalences", 7), ("tournaments", 6), ("orders", 5),
                           ("triples", 5), ("coloured graphs", 5), ("turns", 3), ("bare", 7), ("one value", 7)]:
            kind = sample_kinds()[name]
            paper = write_up(kind, size)
            self.assertEqual([[item.structure for item in level] for level in paper.levels], census(kind, size))
            self.assertIs(accepts(kind, paper), True)

    def test_size_0(self):
        for kind in sample_kinds().values():
            paper = write_up(kind, 0)
            self.assertEqual([[vars(item) for item in level] for level in paper.levels],
                             [[{"structure": (), "chain": [], "steps": []}]])

    def test_no_structures_from_some_size_on(self):
        kind = Kind([("edge", 2, 2, True)], [(2, says("edge", (0, 1), 1)), (3, says("edge", (0, 1), 0))])
        paper = write_up(kind, 5)
        self.assertEqual([len(level) for level in paper.levels], [1, 1, 1, 0, 0, 0])
        self.assertIs(accepts(kind, paper), True)
        self.assertEqual(paper.levels[2][0].steps, [])

    def test_too_many_layers(self):
        for sentences in [[], [(1, ("false",))]]:
            kind = Kind([TURN], sentences)
            self.assertEqual(len(write_up(kind, 3).levels), 4)
            for size in [4, 5, 7]:
                with self.assertRaises(TooManyLayers) as held:
                    write_up(kind, size)
                self.assertEqual(held.exception.count, 2 ** 18)
        with self.assertRaises(TooManyLayers) as held:
            write_up(Kind([("mark", 1, 4097, False)], []), 1)
        self.assertEqual(held.exception.count, 4097)
        self.assertEqual(len(write_up(Kind([("mark", 1, 4097, False)], []), 0).levels), 1)

    def test_as_many_layers_as_there_may_be(self):
        paper = write_up(Kind([("mark", 1, 4096, False)], []), 1)
        self.assertEqual([len(level) for level in paper.levels], [1, 4096])


if __name__ == "__main__":
    unittest.main()
