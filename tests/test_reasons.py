"""Point 18.1: why papers are refused."""

import random
import unittest

from broken import ODD_RENAMINGS, ODD_TUPLES, broken, with_item, with_level, with_step
from by_hand import paper_by_hand, reason_by_hand, small_kinds, too_many_layers
from definitions import belongs, ready_kinds, sample_kinds
from oneofeach.checker import accepts
from oneofeach.errors import TooManyLayers
from oneofeach.kinds import Kind
from oneofeach.papers import Item, Paper, write_up
from oneofeach.reasons import why_refused

GRAPHS = ready_kinds()["graphs"]
TRIANGLE = (((),), ((1,),), ((1, 1),))


class OneFaultTest(unittest.TestCase):

    def setUp(self):
        self.paper = write_up(GRAPHS, 3)

    def reason(self, expected, paper):
        """Check the reason, by the definition too."""
        self.assertEqual(reason_by_hand(GRAPHS, paper), expected)
        found = why_refused(GRAPHS, paper)
        self.assertEqual(found, expected)
        self.assertIs(type(found), tuple)
        self.assertIs(accepts(GRAPHS, paper), False)

    def test_none(self):
        self.assertIsNone(why_refused(GRAPHS, self.paper))
        self.assertIsNone(why_refused(GRAPHS, Paper([[Item((), [], [])]])))

    def test_start(self):
        item = Item((), [], [])
        self.reason((0, 0, "start"), Paper([[]]))
        self.reason((0, 0, "start"), Paper([[item, item]]))
        self.reason((0, 0, "start"), with_level(self.paper, 0, []))
        self.reason((0, 0, "start"), with_level(self.paper, 0, self.paper.levels[0] * 3))

    def test_structure(self):
        for size in range(4):
            for number in range(len(self.paper.levels[size])):
                other = ((), (((),),))[size == 0]
                self.reason((size, number, "structure"), with_item(self.paper, size, number, structure=other))
        self.reason((2, 1, "structure"), with_item(self.paper, 2, 1, structure=(((),), ((2,),))))

    def test_chain(self):
        for size in range(1, 4):
            for number, item in enumerate(self.paper.levels[size]):
                for lists in [[], item.chain[1:], item.chain + [[()]], [[]] + item.chain[1:], [[()]] * size]:
                    self.reason((size, number, "chain"), with_item(self.paper, size, number, chain=lists))
        self.reason((0, 0, "chain"), with_item(self.paper, 0, 0, chain=[[()]]))

    def test_weight(self):
        paper = write_up(GRAPHS, 4)
        last = len(paper.levels[4]) - 1
        for number in [0, last]:
            lists = paper.levels[4][number].chain
            self.assertEqual([len(row) for row in lists], [4, 3, 2, 1])
            self.reason((4, number, "weight"), with_item(paper, 4, number, chain=[lists[0][1:]] + lists[1:]))

    def test_layers(self):
        for size in range(3):
            for number, item in enumerate(self.paper.levels[size]):
                for steps in [[], item.steps[1:], item.steps + item.steps[:1], item.steps[:1] * 2]:
                    self.reason((size, number, "layers"), with_item(self.paper, size, number, steps=steps))
        self.reason((2, 1, "layers"), with_item(self.paper, 2, 1, steps=self.paper.levels[2][1].steps[::-1]))

    def test_step(self):
        for size in range(3):
            for number, item in enumerate(self.paper.levels[size]):
                for at in range(len(item.steps)):
                    for target in [-1, 4, 10 ** 8, -10 ** 8]:
                        paper = with_step(self.paper, size, number, at, target=target)
                        self.reason((size, number, "step"), paper)
                    self.reason((size, number, "step"), with_step(self.paper, size, number, at, names=()))
        self.reason((1, 0, "step"), with_step(self.paper, 1, 0, 1, target=0))

    def test_sum(self):
        for size in [2, 3]:
            level = self.paper.levels[size]
            for item in level:
                self.reason((size, 0, "sum"), with_level(self.paper, size, level + [item]))
        lists = [row[:1] for row in self.paper.levels[2][1].chain]
        self.reason((2, 0, "sum"), with_item(self.paper, 2, 1, chain=lists))

    def test_end(self):
        for number, item in enumerate(write_up(GRAPHS, 4).levels[3]):
            self.reason((3, number, "end"), with_item(self.paper, 3, number, steps=item.steps))
            self.reason((3, number, "end"), with_item(self.paper, 3, number, steps=[((), 0, ())]))


class TwoFaultsTest(unittest.TestCase):

    def setUp(self):
        self.paper = write_up(GRAPHS, 4)
        lists = self.paper.levels[4][0].chain
        self.no_integer = [lists[0][1:]] + lists[1:]

    def structure(self, paper, size, number):
        return with_item(paper, size, number, structure=((),) * (size + 1))

    def chain(self, paper, size, number):
        return with_item(paper, size, number, chain=[[()]] * size + [[]] * (size == 0))

    def weight(self, paper, size, number):
        self.assertEqual((size, number), (4, 0))
        return with_item(paper, 4, 0, chain=self.no_integer)

    def layers(self, paper, size, number):
        return with_item(paper, size, number, steps=paper.levels[size][number].steps[1:])

    def step(self, paper, size, number):
        return with_step(paper, size, number, 0, target=-1)

    def sum(self, paper, size, number):
        return with_level(paper, size, paper.levels[size] + [paper.levels[size][-1]])

    def end(self, paper, size, number):
        self.assertEqual(size, 4)
        return with_item(paper, size, number, steps=[((), 0, ())])

    def first(self, expected, other):
        """Check that the first fault is told, in whatever order they are made."""
        for one, two in [(expected, other), (other, expected)]:
            paper = self.paper
            for size, number, reason in [one, two]:
                if reason == "start":
                    paper = with_level(paper, 0, paper.levels[0] * 2)
                else:
                    paper = getattr(self, reason)(paper, size, number)
            self.assertEqual(reason_by_hand(GRAPHS, paper), expected)
            self.assertEqual(why_refused(GRAPHS, paper), expected)

    def test_start_ahead_of_all(self):
        for other in [(1, 0, "structure"), (1, 0, "chain"), (4, 0, "weight"), (1, 0, "layers"), (1, 0, "step"),
                      (2, 0, "sum"), (4, 1, "end")]:
            self.first((0, 0, "start"), other)

    def test_items_by_themselves_size_by_size_and_item_by_item(self):
        self.first((1, 0, "structure"), (2, 0, "structure"))
        self.first((2, 0, "structure"), (2, 1, "structure"))
        self.first((2, 0, "chain"), (2, 1, "structure"))
        self.first((2, 0, "structure"), (2, 1, "chain"))
        self.first((2, 1, "chain"), (3, 0, "structure"))
        self.first((0, 0, "chain"), (4, 10, "structure"))
        self.first((2, 1, "structure"), (4, 0, "weight"))
        self.first((4, 0, "weight"), (4, 1, "structure"))
        self.first((4, 0, "weight"), (4, 1, "chain"))
        self.first((3, 3, "chain"), (4, 0, "weight"))

    def test_structure_chain_weight_of_one_item(self):
        self.first((4, 0, "structure"), (4, 0, "chain"))
        self.first((4, 0, "structure"), (4, 0, "weight"))
        paper = with_item(self.paper, 4, 0, chain=self.no_integer[:1] + [[()]] + self.no_integer[2:])
        self.assertEqual(why_refused(GRAPHS, paper), (4, 0, "chain"))

    def test_items_by_themselves_ahead_of_steps_and_sums(self):
        for found in [(4, 9, "structure"), (4, 9, "chain"), (4, 0, "weight")]:
            for other in [(0, 0, "layers"), (0, 0, "step"), (2, 0, "sum"), (3, 0, "step"), (4, 0, "sum"), (4, 3, "end")]:
                self.first(found, other)

    def test_layers_and_steps_list_by_list(self):
        self.first((1, 0, "layers"), (2, 0, "layers"))
        self.first((1, 0, "step"), (2, 0, "layers"))
        self.first((0, 0, "step"), (1, 0, "layers"))
        self.first((2, 0, "step"), (2, 1, "layers"))
        self.first((2, 0, "layers"), (2, 1, "step"))
        self.first((2, 0, "step"), (2, 1, "step"))
        self.first((3, 1, "layers"), (3, 3, "layers"))

    def test_layers_ahead_of_step_of_one_item(self):
        steps = list(self.paper.levels[2][1].steps)
        steps[0] = (steps[0][0], -1, steps[0][2])
        paper = with_item(self.paper, 2, 1, steps=steps[:3])
        self.assertEqual(why_refused(GRAPHS, paper), (2, 1, "layers"))

    def test_sums_behind_the_list_before(self):
        self.first((1, 0, "step"), (2, 0, "sum"))
        self.first((1, 0, "layers"), (2, 0, "sum"))
        self.first((2, 0, "sum"), (2, 0, "layers"))
        self.first((2, 0, "sum"), (2, 0, "step"))
        self.first((2, 0, "sum"), (3, 0, "step"))
        self.first((2, 1, "step"), (3, 0, "sum"))
        self.first((3, 3, "layers"), (4, 0, "sum"))
        self.first((3, 0, "sum"), (4, 0, "sum"))

    def test_end_behind_all(self):
        for found in [(0, 0, "layers"), (3, 3, "layers"), (3, 3, "step"), (2, 0, "sum"), (4, 0, "sum")]:
            self.first(found, (4, 0, "end"))
        self.first((4, 1, "end"), (4, 2, "end"))


class OtherPapersTest(unittest.TestCase):

    def test_accepted_papers(self):
        chance = random.Random(240)
        for kind, size in small_kinds():
            self.assertIsNone(why_refused(kind, paper_by_hand(kind, size, chance)))
            self.assertIsNone(why_refused(kind, write_up(kind, size)))

    def test_larger_papers(self):
        for name, size in [("graphs", 6), ("tournaments", 6), ("triples", 5)]:
            self.assertIsNone(why_refused(ready_kinds()[name], write_up(ready_kinds()[name], size)))

    def test_a_structure_that_is_not_of_the_kind(self):
        kind = ready_kinds()["trianglefree"]
        paper = write_up(kind, 3)
        for number in range(3):
            found = why_refused(kind, with_item(paper, 3, number, structure=TRIANGLE))
            self.assertEqual(found, (3, number, "structure"))
        self.assertEqual(why_refused(kind, write_up(GRAPHS, 3)), (3, 3, "structure"))
        self.assertEqual(why_refused(GRAPHS, paper), (2, 1, "layers"))

    def test_structures_and_layers_of_another_shape(self):
        for kind in [GRAPHS, sample_kinds()["bare"], sample_kinds()["one value"]]:
            paper = write_up(kind, 2)
            for odd in ODD_TUPLES:
                for size in range(3):
                    if not belongs(kind, odd) or len(odd) != size:
                        found = why_refused(kind, with_item(paper, size, 0, structure=odd))
                        self.assertEqual(found, (size, 0, "structure"))
                    if size < 2 and odd != paper.levels[size][0].steps[0][0]:
                        found = why_refused(kind, with_step(paper, size, 0, 0, layer=odd))
                        self.assertEqual(found, (size, 0, "layers"))

    def test_tuples_that_are_no_renamings(self):
        paper = write_up(GRAPHS, 3)
        for names in ODD_RENAMINGS:
            if sorted(names) != [0, 1, 2]:
                lists = [[names]] + paper.levels[3][1].chain[1:]
                self.assertEqual(why_refused(GRAPHS, with_item(paper, 3, 1, chain=lists)), (3, 1, "chain"))
                self.assertEqual(why_refused(GRAPHS, with_step(paper, 2, 1, 2, names=names)), (2, 1, "step"))

    def test_changed_papers(self):
        chance = random.Random(241)
        reasons = []
        for kind, size in small_kinds() * 2:
            whole = paper_by_hand(kind, min(size, 3), chance)
            for _ in range(60):
                paper = broken(whole, chance)
                if chance.randrange(2) == 0:
                    paper = broken(paper, chance)
                if too_many_layers(kind, paper) is None:
                    expected = reason_by_hand(kind, paper)
                    self.assertEqual(why_refused(kind, paper), expected)
                    self.assertIs(accepts(kind, paper), expected is None)
                    reasons.append(expected and expected[2])
        for reason, most in [("start", 40), ("structure", 100), ("chain", 100), ("layers", 100), ("step", 100),
                             ("sum", 20), ("end", 40), (None, 40)]:
            self.assertGreater(reasons.count(reason), most, reason)


class TooManyLayersTest(unittest.TestCase):

    def test_as_accepts(self):
        kind = Kind([("turn", 3, 2, False)], [])
        item = Item((5,), [[], [(7, 7)]], [((), -1, ())])
        for levels, count in [
            ([[], [], [], [item], []], 2 ** 18), ([[item], [item], [], [item], [item], []], 2 ** 18),
            ([[], [], [], [], [item], []], 2 ** 36), ([[], [], [], [], [], [], [item], []], 2 ** 90),
        ]:
            with self.assertRaises(TooManyLayers) as held:
                why_refused(kind, Paper(levels))
            self.assertEqual(held.exception.count, count)
        self.assertEqual(why_refused(kind, Paper([[], [], [], [item]])), (0, 0, "start"))
        self.assertEqual(why_refused(kind, Paper([[item], [item], [item], [], [item]])), (0, 0, "structure"))
        self.assertEqual(why_refused(kind, Paper([[], [], [], [], []])), (0, 0, "start"))

    def test_changed_papers(self):
        chance = random.Random(242)
        kind = sample_kinds()["turns"]
        raised = 0
        whole = paper_by_hand(kind, 3, chance)
        for _ in range(150):
            paper = broken(whole, chance)
            count = too_many_layers(kind, paper)
            if count is not None:
                raised += 1
                with self.assertRaises(TooManyLayers) as held:
                    why_refused(kind, paper)
                self.assertEqual(held.exception.count, count)
        self.assertGreater(raised, 2)


if __name__ == "__main__":
    unittest.main()
