"""Points 6.2 and 6.3: weights, and which papers are accepted."""

import random
import unittest

from broken import ODD_RENAMINGS, ODD_TUPLES, broken, with_item, with_level, with_step
from by_hand import is_accepted, paper_by_hand, reason_by_hand, small_kinds, too_many_layers
from definitions import ARC, EDGE, belongs, ready_kinds, renamed_by, sample_kinds, says
from oneofeach.checker import accepts, weight
from oneofeach.errors import TooManyLayers
from oneofeach.kinds import Kind
from oneofeach.papers import Item, Paper, write_up

GRAPHS = ready_kinds()["graphs"]
POINT = (((),),)
EMPTY, JOINED = (((),), ((0,),)), (((),), ((1,),))
ONE_EDGE = (((),), ((0,),), ((0, 1),))


def refused(kind, paper, test):
    """Check that the paper is not accepted."""
    test.assertIs(accepts(kind, paper), False)


class WeightTest(unittest.TestCase):

    def item(self, lengths):
        """An item without edges whose lists have these lengths."""
        structure = tuple(((0,) * point,) for point in range(len(lengths)))
        return Item(structure, [[tuple(range(len(lengths)))] * length for length in lengths], [])

    def test_weights(self):
        for lengths, expected in [
            ([], 1), ([1], 1), ([2, 1], 1), ([1, 1], 2), ([3, 2, 1], 1), ([2, 1, 1], 3), ([3, 1, 1], 2), ([1, 1, 1], 6),
            ([4, 2, 1, 1], 3), ([1] * 5, 120), ([6, 5, 4, 3, 2, 1], 1), ([7, 1, 1, 1, 1, 1, 1], 720), ([1] * 7, 5040),
            ([7, 6, 5, 4, 3, 2, 1], 1), ([2, 1, 2, 1, 2, 1, 1], 630), ([1] * 6, 720), ([2, 2, 2, 1], 3),
        ]:
            self.assertEqual(weight(self.item(lengths)), expected)
            self.assertIs(type(weight(self.item(lengths))), int)

    def test_no_integers(self):
        for lengths in [[2], [3, 1], [2, 2, 1], [4, 1, 1], [3, 3, 1, 1], [7, 1, 1, 1, 1, 1], [5, 5, 1, 1, 1], [4, 4, 4, 1]]:
            self.assertIsNone(weight(self.item(lengths)))

    def test_weights_sum_up(self):
        for size, total in [(0, 1), (1, 1), (2, 2), (3, 8), (4, 64), (5, 1024)]:
            paper = write_up(GRAPHS, size)
            self.assertEqual(sum(weight(item) for item in paper.levels[size]), total)


class AcceptedTest(unittest.TestCase):

    def test_papers_by_hand(self):
        chance = random.Random(230)
        for kind, size in small_kinds():
            for _ in range(2):
                self.assertIs(accepts(kind, paper_by_hand(kind, size, chance)), True)

    def test_papers_of_each_length(self):
        chance = random.Random(231)
        paper = paper_by_hand(GRAPHS, 4, chance)
        for size in range(4):
            level = [Item(item.structure, item.chain, []) for item in paper.levels[size]]
            self.assertIs(accepts(GRAPHS, Paper(paper.levels[:size] + [level])), True)
            refused(GRAPHS, Paper(paper.levels[:size + 1]), self)

    def test_the_smallest_paper(self):
        for kind in sample_kinds().values():
            self.assertIs(accepts(kind, Paper([[Item((), [], [])]])), True)

    def test_a_paper_for_another_kind(self):
        digraphs, trianglefree = ready_kinds()["digraphs"], ready_kinds()["trianglefree"]
        paper = write_up(GRAPHS, 3)
        self.assertIs(accepts(trianglefree, paper), False)
        self.assertIs(accepts(digraphs, paper), False)
        self.assertIs(accepts(GRAPHS, write_up(trianglefree, 3)), False)
        self.assertIs(accepts(trianglefree, write_up(GRAPHS, 2)), True)
        self.assertIs(accepts(Kind([EDGE, ARC], []), paper), False)


class RefusedTest(unittest.TestCase):
    """Each paper breaks one condition; the paper from which it is made is accepted."""

    def setUp(self):
        self.paper = write_up(GRAPHS, 3)
        self.structures = [item.structure for item in self.paper.levels[3]]

    def refuse(self, paper, reason):
        """Check that the paper is refused, and for what."""
        self.assertEqual(reason_by_hand(GRAPHS, paper)[2], reason)
        refused(GRAPHS, paper, self)

    def test_the_paper(self):
        self.assertIs(accepts(GRAPHS, self.paper), True)
        self.assertIs(accepts(GRAPHS, with_item(self.paper, 1, 0)), True)

    def test_no_item_or_two_items_of_size_0(self):
        item = Item((), [], [])
        self.refuse(Paper([[]]), "start")
        self.refuse(Paper([[], []]), "start")
        self.refuse(Paper([[item, item]]), "start")
        self.refuse(with_level(self.paper, 0, self.paper.levels[0] * 2), "start")
        self.refuse(with_level(self.paper, 0, []), "start")
        none = Kind([], [(1, ("false",))])
        refused(none, Paper([[item, item], []]), self)
        refused(none, Paper([[], []]), self)
        self.assertIs(accepts(none, Paper([[item], []])), True)

    def test_another_number_of_points(self):
        self.refuse(Paper([[Item(POINT, [[(0,)]], [])]]), "structure")
        self.refuse(with_item(self.paper, 3, 0, structure=EMPTY, chain=[[(0, 1), (1, 0)], [(0, 1)]]), "structure")
        self.refuse(with_item(self.paper, 2, 0, structure=ONE_EDGE), "structure")
        self.refuse(with_item(self.paper, 3, 0, structure=()), "structure")

    def test_structures_that_are_not_of_the_kind(self):
        kind = ready_kinds()["trianglefree"]
        paper = write_up(kind, 3)
        triangle = (((),), ((1,),), ((1, 1),))
        self.assertIs(accepts(kind, paper), True)
        for number in range(3):
            refused(kind, with_item(paper, 3, number, structure=triangle), self)
        level = paper.levels[3] + [Item(triangle, self.paper.levels[3][0].chain, [])]
        refused(kind, with_level(paper, 3, level), self)
        refused(Kind([], [(1, ("false",))]), Paper([[Item((), [], [])], [Item(((),), [[(0,)]], [])]]), self)

    def test_values_that_the_relation_does_not_have(self):
        for layer in [((2,),), ((-1,),), ((10 ** 8,),)]:
            self.refuse(with_item(self.paper, 2, 0, structure=(((),), layer)), "structure")

    def test_a_list_of_the_chain_too_few_or_too_many(self):
        for size in [1, 2, 3]:
            lists = self.paper.levels[size][0].chain
            self.refuse(with_item(self.paper, size, 0, chain=lists[:-1]), "chain")
            self.refuse(with_item(self.paper, size, 0, chain=lists + [[tuple(range(size))]]), "chain")
        self.refuse(with_item(self.paper, 0, 0, chain=[[()]]), "chain")
        self.refuse(with_item(self.paper, 0, 0, chain=[[]]), "chain")
        self.refuse(with_item(self.paper, 3, 0, chain=[]), "chain")

    def test_an_empty_list_of_the_chain(self):
        for size in [1, 2, 3]:
            for point in range(size):
                lists = list(self.paper.levels[size][0].chain)
                lists[point] = []
                self.refuse(with_item(self.paper, size, 0, chain=lists), "chain")
        self.refuse(with_item(self.paper, 3, 0, chain=[[], [], []]), "chain")

    def one_edge(self):
        """The number of the structure with one edge of three points."""
        return self.structures.index(ONE_EDGE)

    def test_a_renaming_that_is_no_symmetry(self):
        number = self.one_edge()
        # Points 1 and 2 are joined, point 0 is alone.
        right = [[(0, 1, 2)], [(0, 1, 2), (0, 2, 1)], [(0, 1, 2)]]
        self.assertIs(accepts(GRAPHS, with_item(self.paper, 3, number, chain=right)), True)
        self.refuse(with_item(self.paper, 3, number, chain=[[(1, 0, 2)], right[1], right[2]]), "chain")
        self.refuse(with_item(self.paper, 3, number, chain=[[(0, 1, 2), (2, 1, 0)], [(0, 1, 2)], right[2]]), "chain")

    def test_a_renaming_that_moves_a_point_before(self):
        empty = [[(0, 1, 2), (1, 0, 2), (2, 1, 0)], [(0, 1, 2), (0, 2, 1)], [(0, 1, 2)]]
        self.assertIs(accepts(GRAPHS, with_item(self.paper, 3, 0, chain=empty)), True)
        self.refuse(with_item(self.paper, 3, 0, chain=[empty[0], [(0, 1, 2), (1, 2, 0)], empty[2]]), "chain")
        self.refuse(with_item(self.paper, 3, 0, chain=[empty[0], [(1, 0, 2), (0, 2, 1)], empty[2]]), "chain")
        self.refuse(with_item(self.paper, 3, 0, chain=[empty[0], empty[1], [(1, 0, 2)]]), "chain")

    def test_renamings_that_are_none_of_the_points(self):
        for names in [(), (0,), (0, 1), (0, 1, 2, 3), (0, 0, 0), (0, 1, 1), (0, 1, 3), (0, 1, -1), (0, 1, 10 ** 8), (1, 2, 3)]:
            for point in range(3):
                lists = [list(row) for row in self.paper.levels[3][0].chain]
                lists[point][0] = names
                self.refuse(with_item(self.paper, 3, 0, chain=lists), "chain")

    def test_two_renamings_that_bring_the_point_to_the_same_point(self):
        empty = [[(0, 1, 2), (1, 0, 2), (2, 1, 0)], [(0, 1, 2), (0, 2, 1)], [(0, 1, 2)]]
        self.refuse(with_item(self.paper, 3, 0, chain=[[(0, 1, 2), (1, 0, 2), (1, 2, 0)], empty[1], empty[2]]), "chain")
        self.refuse(with_item(self.paper, 3, 0, chain=[[(0, 1, 2), (2, 1, 0), (2, 1, 0)], empty[1], empty[2]]), "chain")
        self.refuse(with_item(self.paper, 3, 0, chain=[empty[0], [(0, 2, 1)] * 2, empty[2]]), "chain")
        self.refuse(with_item(self.paper, 3, 0, chain=[empty[0], [(0, 1, 2)], [(0, 1, 2)] * 2]), "chain")

    def test_a_weight_that_is_no_integer(self):
        # There are structures of 4 points with 8 and more symmetries, so 3 * 3 and the like are at hand.
        paper = write_up(GRAPHS, 4)
        lists = [list(row) for row in paper.levels[4][0].chain]
        self.assertEqual([len(row) for row in lists], [4, 3, 2, 1])
        self.refuse(with_item(paper, 4, 0, chain=[lists[0][:3], lists[1], lists[2], lists[3]]), "weight")
        self.refuse(with_item(paper, 4, 0, chain=[lists[0][:3], lists[1], lists[2][1:], lists[3]]), "weight")

    def test_symmetries_left_out(self):
        for size in [2, 3]:
            for number, item in enumerate(self.paper.levels[size]):
                for point, row in enumerate(item.chain):
                    if len(row) > 1:
                        lists = item.chain[:point] + [row[:1]] + item.chain[point + 1:]
                        self.refuse(with_item(self.paper, size, number, chain=lists), "sum")

    def test_steps_left_out_doubled_or_in_another_order(self):
        for size in [0, 1, 2]:
            for number, item in enumerate(self.paper.levels[size]):
                steps = item.steps
                for at in range(len(steps)):
                    self.refuse(with_item(self.paper, size, number, steps=steps[:at] + steps[at + 1:]), "layers")
                    self.refuse(with_item(self.paper, size, number, steps=steps[:at + 1] + steps[at:]), "layers")
                if len(steps) > 1:
                    self.refuse(with_item(self.paper, size, number, steps=steps[::-1]), "layers")
                    self.refuse(with_item(self.paper, size, number, steps=[steps[1], steps[0]] + steps[2:]), "layers")
                self.refuse(with_item(self.paper, size, number, steps=[]), "layers")

    def test_layers_that_are_no_extensions(self):
        for layer in [((2,),), ((0, 0),), ((),), (), ((0,), (0,)), (0,), 3 * ((),)]:
            self.refuse(with_step(self.paper, 1, 0, 0, layer=layer), "layers")
        kind = ready_kinds()["trianglefree"]
        paper = write_up(kind, 3)
        step = (((1, 1),), 1, (0, 1, 2))
        refused(kind, with_item(paper, 2, 1, steps=paper.levels[2][1].steps + [step]), self)

    def test_numbers_below_0_or_too_great(self):
        for size in [0, 1, 2]:
            many = len(self.paper.levels[size + 1])
            for number, item in enumerate(self.paper.levels[size]):
                for at, step in enumerate(item.steps):
                    for target in [step[1] - many, -1, -many, many, many + step[1], 10 ** 8, -10 ** 8]:
                        self.refuse(with_step(self.paper, size, number, at, target=target), "step")

    def test_numbers_of_other_items(self):
        for size in [1, 2]:
            for number, item in enumerate(self.paper.levels[size]):
                for at, step in enumerate(item.steps):
                    for target in range(len(self.paper.levels[size + 1])):
                        if target != step[1]:
                            self.refuse(with_step(self.paper, size, number, at, target=target), "step")

    def test_renamings_that_lead_elsewhere(self):
        ways = 0
        for number, item in enumerate(self.paper.levels[2]):
            for at, (layer, target, names) in enumerate(item.steps):
                longer = item.structure + (layer,)
                for other in [(0, 1, 2), (0, 2, 1), (1, 0, 2), (1, 2, 0), (2, 0, 1), (2, 1, 0)]:
                    paper = with_step(self.paper, 2, number, at, names=other)
                    if renamed_by(GRAPHS, longer, other) == self.structures[target]:
                        self.assertIs(accepts(GRAPHS, paper), True)
                    else:
                        ways += 1
                        self.refuse(paper, "step")
        self.assertGreater(ways, 10)

    def test_renamings_of_steps_that_are_none(self):
        for names in ODD_RENAMINGS:
            if len(names) != 3 or sorted(names) != [0, 1, 2]:
                self.refuse(with_step(self.paper, 2, 0, 0, names=names), "step")
        for names in [(), (1,), (-1,), (0, 1), (0, 0)]:
            self.refuse(with_step(self.paper, 0, 0, 0, names=names), "step")

    def test_steps_in_the_last_list(self):
        self.refuse(Paper([[Item((), [], [(((),), 0, (0,))])]]), "end")
        longer = write_up(GRAPHS, 4)
        for number in range(4):
            paper = with_item(self.paper, 3, number, steps=longer.levels[3][number].steps)
            self.refuse(paper, "end")
            self.refuse(with_item(self.paper, 3, number, steps=[((), -1, ())]), "end")

    def test_an_item_doubled(self):
        for size in [2, 3]:
            for number, item in enumerate(self.paper.levels[size]):
                self.refuse(with_level(self.paper, size, self.paper.levels[size] + [item]), "sum")
        level = self.paper.levels[3]
        other = Item(renamed_by(GRAPHS, ONE_EDGE, (2, 1, 0)), [[(0, 1, 2)], [(0, 1, 2)], [(0, 1, 2)]], [])
        self.refuse(with_level(self.paper, 3, level + [other]), "sum")

    def test_an_item_that_no_step_leads_to(self):
        kind = ready_kinds()["tournaments"]
        paper = write_up(kind, 2)
        self.assertIs(accepts(kind, paper), True)
        turned = renamed_by(kind, paper.levels[2][0].structure, (1, 0))
        item = Item(turned, [[(0, 1)], [(0, 1)]], [])
        refused(kind, with_level(paper, 2, paper.levels[2] + [item]), self)
        refused(kind, with_level(paper, 2, []), self)

    def test_an_item_left_out(self):
        for size in [1, 2, 3]:
            for number in range(len(self.paper.levels[size])):
                level = self.paper.levels[size]
                self.assertFalse(is_accepted(GRAPHS, with_level(self.paper, size, level[:number] + level[number + 1:])))
                refused(GRAPHS, with_level(self.paper, size, level[:number] + level[number + 1:]), self)

    def test_an_item_left_out_and_the_steps_led_elsewhere(self):
        marks = Kind([("mark", 1, 2, False)], [])
        paper = write_up(marks, 1)
        for number in range(2):
            steps = [(step[0], 0, step[2]) for step in paper.levels[0][0].steps]
            one = with_level(with_item(paper, 0, 0, steps=steps), 1, [paper.levels[1][number]])
            self.assertEqual(reason_by_hand(marks, one), (0, 0, "step"))
            refused(marks, one, self)

    def test_lists_left_out_or_doubled(self):
        for size in range(1, 4):
            refused(GRAPHS, Paper(self.paper.levels[:size] + self.paper.levels[size + 1:]), self)
        refused(GRAPHS, Paper(self.paper.levels[1:]), self)
        refused(GRAPHS, Paper(self.paper.levels + [[]]), self)
        refused(GRAPHS, Paper([[]] + self.paper.levels), self)


class OtherShapesTest(unittest.TestCase):

    def test_structures(self):
        for kind, size in [(GRAPHS, 2), (sample_kinds()["bare"], 2), (sample_kinds()["one value"], 2)]:
            paper = write_up(kind, size)
            for number in range(3):
                for odd in ODD_TUPLES + [3 * odd for odd in ODD_TUPLES]:
                    if not belongs(kind, odd) or len(odd) != number:
                        refused(kind, with_item(paper, number, 0, structure=odd[:7]), self)

    def test_layers(self):
        for kind in [GRAPHS, sample_kinds()["bare"], sample_kinds()["one value"]]:
            paper = write_up(kind, 2)
            for size in range(2):
                right = paper.levels[size][0].steps[0][0]
                for odd in ODD_TUPLES:
                    if odd != right:
                        refused(kind, with_step(paper, size, 0, 0, layer=odd), self)

    def test_renamings(self):
        paper = write_up(GRAPHS, 2)
        for names in ODD_RENAMINGS + [(0, 1, 2, 3, 4, 5, 6, 7, 8)]:
            if names != (0,):
                refused(GRAPHS, with_item(paper, 1, 0, chain=[[names]]), self)
                refused(GRAPHS, with_step(paper, 0, 0, 0, names=names), self)
            if len(names) != 2 or set(names) != {0, 1}:
                refused(GRAPHS, with_item(paper, 2, 0, chain=[[names], [(0, 1)]]), self)
                refused(GRAPHS, with_step(paper, 1, 0, 0, names=names), self)

    def test_changed_papers(self):
        chance = random.Random(232)
        answers = []
        for kind, size in small_kinds():
            size = min(size, 3)
            whole = paper_by_hand(kind, size, chance)
            for _ in range(60):
                paper = broken(whole, chance)
                if chance.randrange(3) == 0:
                    paper = broken(paper, chance)
                count = too_many_layers(kind, paper)
                if count is not None:
                    with self.assertRaises(TooManyLayers) as held:
                        accepts(kind, paper)
                    self.assertEqual(held.exception.count, count)
                    continue
                expected = is_accepted(kind, paper)
                answers.append(expected)
                self.assertIs(accepts(kind, paper), expected)
        self.assertGreater(answers.count(True), 50)
        self.assertGreater(answers.count(False), 500)


class TooManyLayersTest(unittest.TestCase):

    def raises(self, kind, levels, count):
        """Check the error and its count."""
        with self.assertRaises(TooManyLayers) as held:
            accepts(kind, Paper(levels))
        self.assertEqual(held.exception.count, count)

    def test_the_first_list_with_an_item(self):
        kind = Kind([("turn", 3, 2, False)], [])
        item = Item((), [], [])
        self.raises(kind, [[], [], [], [item], []], 2 ** 18)
        self.raises(kind, [[item], [item], [], [item], [item], []], 2 ** 18)
        self.raises(kind, [[], [], [], [], [item], []], 2 ** 36)
        self.raises(kind, [[], [], [], [], [item], [item], []], 2 ** 36)
        self.raises(kind, [[], [], [], [], [], [], [item], []], 2 ** 90)

    def test_sizes_that_do_not_count(self):
        kind = Kind([("turn", 3, 2, False)], [])
        item = Item((), [], [])
        self.assertIs(accepts(kind, Paper([[], [], [], [item]])), False)
        self.assertIs(accepts(kind, Paper([[], [], [], [], [], []])), False)
        self.assertIs(accepts(kind, Paper([[item], [item], [item], [], [item]])), False)
        self.assertIs(accepts(Kind([("mark", 1, 5000, False)], []), Paper([[item]])), True)
        none = Kind([("turn", 3, 2, False)], [(1, ("false",))])
        self.assertIs(accepts(none, Paper([[item]] + [[]] * 7)), True)

    def test_before_anything_else(self):
        kind = Kind([("mark", 1, 5000, False)], [])
        for item in [Item((5,), [[], [(7, 7)]], [((), -1, ())]), Item((), [], [])]:
            self.raises(kind, [[item], []], 5000)
            self.raises(kind, [[item, item], [item]], 5000)
            self.raises(kind, [[], [item], []], 5000)
            self.raises(kind, [[], [], [item], [], []], 5000)

    def test_as_many_layers_as_there_may_be(self):
        kind = Kind([("mark", 1, 4096, False)], [])
        self.assertIs(accepts(kind, write_up(kind, 1)), True)
        kind = Kind([("mark", 1, 4097, False)], [])
        self.raises(kind, [[Item((), [], [])], []], 4097)

    def test_kinds_without_structures(self):
        kind = Kind([("mark", 1, 5000, False)], [(1, ("false",))])
        self.raises(kind, [[Item((), [], [])], []], 5000)


if __name__ == "__main__":
    unittest.main()
