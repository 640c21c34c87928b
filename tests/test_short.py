"""Points 17.1 and 17.2: short papers."""

import copy
import random
import unittest

from broken import ODD_RENAMINGS, ODD_TUPLES, broken, with_item, with_level, with_step
from by_hand import (
    in_one_class, is_accepted_short, least_by_hand, number_in, paper_by_hand, reason_by_hand, shortened_by_hand,
    small_kinds, too_many_layers,
)
from classes import all_renamed
from definitions import belongs, every_structure, ready_kinds, renamed_by, sample_kinds
from oneofeach.checker import accepts
from oneofeach.errors import TooManyLayers
from oneofeach.kinds import Kind
from oneofeach.papers import Item, Paper, write_up
from oneofeach.short import accepts_short, find_short, lengthen, shorten

GRAPHS = ready_kinds()["graphs"]


def fields(paper):
    """The fields of all items."""
    return [[copy.deepcopy(vars(item)) for item in level] for level in paper.levels]


def papers(seed):
    """Pairs of a kind and an accepted paper, one of write_up and one made by hand for each kind."""
    chance = random.Random(seed)
    found = []
    for kind, size in small_kinds():
        found.append((kind, write_up(kind, size)))
        found.append((kind, paper_by_hand(kind, size, chance)))
    return found


class ShortenTest(unittest.TestCase):

    def test_what_is_left_out(self):
        for kind, paper in papers(250):
            short = shorten(kind, paper)
            self.assertIs(type(short), Paper)
            self.assertEqual([len(level) for level in short.levels], [len(level) for level in paper.levels])
            for level, other in zip(short.levels, paper.levels):
                for item, before in zip(level, other):
                    self.assertEqual(item.structure, before.structure)
                    self.assertEqual(item.chain, before.chain)
                    least = least_by_hand(kind, before) if level is not short.levels[-1] else []
                    self.assertEqual(item.steps, [step for step in before.steps if step[0] in least])
                    self.assertEqual([step[0] for step in item.steps], least)

    def test_something_is_left_out(self):
        paper = shorten(GRAPHS, write_up(GRAPHS, 4))
        self.assertEqual([len(item.steps) for item in paper.levels[2]], [3, 3])
        self.assertEqual([len(item.steps) for item in paper.levels[3]], [4, 6, 6, 4])
        self.assertEqual([step[0] for step in paper.levels[2][0].steps], [((0, 0),), ((0, 1),), ((1, 1),)])

    def test_papers_stay_and_items_are_new(self):
        for kind, paper in papers(251):
            before = fields(paper)
            for change in [shorten, lengthen]:
                found = change(kind, paper if change is shorten else shorten(kind, paper))
                self.assertEqual(fields(paper), before)
                items = [item for level in paper.levels for item in level]
                for item in [item for level in found.levels for item in level]:
                    self.assertFalse(any(item is other for other in items))
                    item.chain.clear()
                    item.steps.clear()
                self.assertEqual(fields(paper), before)

    def test_shortened_papers_stay_where_they_are_lengthened(self):
        for kind, paper in papers(252):
            short = shorten(kind, paper)
            before = fields(short)
            found = lengthen(kind, short)
            self.assertEqual(fields(short), before)
            self.assertFalse(found.levels[0][0] is short.levels[0][0])


class LengthenTest(unittest.TestCase):

    def check(self, kind, paper, short):
        """Check what lengthen gives, by the paper that the short one was made of."""
        found = lengthen(kind, short)
        self.assertIs(type(found), Paper)
        self.assertIsNone(reason_by_hand(kind, found))
        self.assertIs(accepts(kind, found), True)
        for level, other in zip(found.levels, paper.levels):
            for item, before in zip(level, other):
                self.assertEqual((item.structure, item.chain), (before.structure, before.chain))
                self.assertEqual([step[:2] for step in item.steps], [step[:2] for step in before.steps])

    def test_of_what_shorten_gives(self):
        for kind, paper in papers(253):
            self.check(kind, paper, shorten(kind, paper))

    def test_of_short_papers_by_hand(self):
        for kind, paper in papers(254):
            self.check(kind, paper, shortened_by_hand(kind, paper))

    def test_larger_ones(self):
        for name, size in [("graphs", 6), ("trianglefree", 7), ("tournaments", 6), ("triples", 5)]:
            kind = ready_kinds()[name]
            paper = write_up(kind, size)
            short = shorten(kind, paper)
            self.assertIs(accepts_short(kind, short), True)
            self.assertIs(accepts(kind, lengthen(kind, short)), True)


class AcceptedTest(unittest.TestCase):

    def test_what_shorten_gives(self):
        for kind, paper in papers(255):
            self.assertTrue(is_accepted_short(kind, shorten(kind, paper)))
            self.assertIs(accepts_short(kind, shorten(kind, paper)), True)

    def test_short_papers_by_hand(self):
        for kind, paper in papers(256):
            self.assertIs(accepts_short(kind, shortened_by_hand(kind, paper)), True)

    def test_any_renamings_that_fit(self):
        chance = random.Random(257)
        for kind, paper in papers(258):
            short = shorten(kind, paper)
            for size, level in enumerate(short.levels[:-1]):
                for number, item in enumerate(level):
                    steps = []
                    for layer, target, _ in item.steps:
                        found = all_renamed(kind, item.structure + (layer,))
                        sought = short.levels[size + 1][target].structure
                        steps.append((layer, target, chance.choice([names for names in found if found[names] == sought])))
                    short = with_item(short, size, number, steps=steps)
            self.assertIs(accepts_short(kind, short), True)

    def test_papers_and_short_papers(self):
        paper = write_up(GRAPHS, 3)
        self.assertIs(accepts_short(GRAPHS, paper), False)
        self.assertIs(accepts(GRAPHS, shorten(GRAPHS, paper)), False)
        # Up to two points there is nothing to leave out.
        paper = write_up(GRAPHS, 2)
        self.assertIs(accepts_short(GRAPHS, paper), True)
        self.assertIs(accepts(GRAPHS, shorten(GRAPHS, paper)), True)

    def test_the_smallest_paper(self):
        for kind in sample_kinds().values():
            self.assertIs(accepts_short(kind, Paper([[Item((), [], [])]])), True)

    def test_no_structures_from_some_size_on(self):
        kind = sample_kinds()["bare, at most two points"]
        self.assertIs(accepts_short(kind, shorten(kind, write_up(kind, 6))), True)


class RefusedTest(unittest.TestCase):

    def setUp(self):
        self.long = write_up(GRAPHS, 3)
        self.paper = shorten(GRAPHS, self.long)

    def refuse(self, paper):
        """Check that the paper is not accepted."""
        self.assertFalse(is_accepted_short(GRAPHS, paper))
        self.assertIs(accepts_short(GRAPHS, paper), False)

    def test_the_paper(self):
        self.assertIs(accepts_short(GRAPHS, self.paper), True)

    def test_steps_left_out_doubled_or_in_another_order(self):
        for size in range(3):
            for number, item in enumerate(self.paper.levels[size]):
                for at in range(len(item.steps)):
                    left, right = item.steps[:at], item.steps[at + 1:]
                    self.refuse(with_item(self.paper, size, number, steps=left + right))
                    self.refuse(with_item(self.paper, size, number, steps=left + item.steps[at:at + 1] * 2 + right))
                if len(item.steps) > 1:
                    self.refuse(with_item(self.paper, size, number, steps=item.steps[::-1]))

    def test_steps_for_other_layers_of_the_orbits(self):
        for number, item in enumerate(self.paper.levels[2]):
            others = [step for step in self.long.levels[2][number].steps if step not in item.steps]
            self.assertEqual([step[0] for step in others], [((1, 0),)])
            self.refuse(with_item(self.paper, 2, number, steps=sorted(item.steps + others)))
            steps = [others[0] if step[0] == ((0, 1),) else step for step in item.steps]
            self.refuse(with_item(self.paper, 2, number, steps=steps))

    def test_wrong_numbers_and_renamings(self):
        for size in range(3):
            many = len(self.paper.levels[size + 1])
            for number, item in enumerate(self.paper.levels[size]):
                for at, step in enumerate(item.steps):
                    for target in [step[1] - many, -1, many, 10 ** 8] + [n for n in range(many) if n != step[1]]:
                        self.refuse(with_step(self.paper, size, number, at, target=target))
                    for names, found in all_renamed(GRAPHS, item.structure + (step[0],)).items():
                        paper = with_step(self.paper, size, number, at, names=names)
                        if found == self.paper.levels[size + 1][step[1]].structure:
                            self.assertIs(accepts_short(GRAPHS, paper), True)
                        else:
                            self.refuse(paper)
                    for names in ODD_RENAMINGS:
                        if sorted(names) != list(range(size + 1)):
                            self.refuse(with_step(self.paper, size, number, at, names=names))

    def test_items_left_out_or_doubled(self):
        for size in range(4):
            level = self.paper.levels[size]
            for number in range(len(level)):
                self.refuse(with_level(self.paper, size, level[:number] + level[number + 1:]))
                self.refuse(with_level(self.paper, size, level + level[number:number + 1]))

    def test_chains(self):
        for size in range(1, 4):
            for number, item in enumerate(self.paper.levels[size]):
                for lists in [[], item.chain[1:], item.chain + [[tuple(range(size))]], [[]] + item.chain[1:],
                              [[tuple(range(size + 1))]] + item.chain[1:], [item.chain[0] * 2] + item.chain[1:]]:
                    self.refuse(with_item(self.paper, size, number, chain=lists))
        self.refuse(with_item(self.paper, 3, 1, chain=[[(1, 0, 2)]] + self.paper.levels[3][1].chain[1:]))

    def test_weights(self):
        paper = shorten(GRAPHS, write_up(GRAPHS, 4))
        lists = paper.levels[4][0].chain
        self.refuse(with_item(paper, 4, 0, chain=[lists[0][1:]] + lists[1:]))

    def test_chains_that_do_not_give_all_symmetries(self):
        # The orbits are those of the chain, so there are steps for more layers; still the sum tells it.
        lists = [[(0, 1)], [(0, 1)]]
        for number in range(2):
            paper = with_item(self.long, 2, number, chain=lists)
            other = 1 - number
            paper = with_item(paper, 2, other, steps=self.paper.levels[2][other].steps)
            paper = with_item(paper, 1, 0, steps=self.paper.levels[1][0].steps)
            self.assertEqual(reason_by_hand(GRAPHS, paper, short=True), (2, 0, "sum"))
            self.assertIs(accepts_short(GRAPHS, paper), False)

    def test_steps_in_the_last_list(self):
        longer = shorten(GRAPHS, write_up(GRAPHS, 4))
        for number in range(4):
            self.refuse(with_item(self.paper, 3, number, steps=longer.levels[3][number].steps))
        self.refuse(Paper([[Item((), [], [(((),), 0, (0,))])]]))

    def test_no_item_or_two_items_of_size_0(self):
        item = Item((), [], [])
        for level in [[], [item, item]]:
            self.refuse(Paper([level]))
            self.refuse(with_level(self.paper, 0, level))

    def test_other_shapes(self):
        for size in range(3):
            for odd in ODD_TUPLES:
                if not belongs(GRAPHS, odd) or len(odd) != size:
                    self.refuse(with_item(self.paper, size, 0, structure=odd))
                if odd != self.paper.levels[size][0].steps[0][0]:
                    self.refuse(with_step(self.paper, size, 0, 0, layer=odd))

    def test_changed_papers(self):
        chance = random.Random(259)
        answers = []
        for kind, size in small_kinds():
            whole = shortened_by_hand(kind, paper_by_hand(kind, min(size, 3), chance))
            for _ in range(50):
                paper = broken(whole, chance)
                if chance.randrange(3) == 0:
                    paper = broken(paper, chance)
                if too_many_layers(kind, paper) is None:
                    expected = is_accepted_short(kind, paper)
                    answers.append(expected)
                    self.assertIs(accepts_short(kind, paper), expected)
        self.assertGreater(answers.count(True), 50)
        self.assertGreater(answers.count(False), 400)


class TooManyLayersTest(unittest.TestCase):

    def test_as_accepts(self):
        kind = Kind([("turn", 3, 2, False)], [])
        item = Item((5,), [[], [(7, 7)]], [((), -1, ())])
        for levels, count in [
            ([[], [], [], [item], []], 2 ** 18), ([[item], [item], [], [item], [item], []], 2 ** 18),
            ([[], [], [], [], [item], []], 2 ** 36), ([[], [], [], [], [], [], [item], []], 2 ** 90),
        ]:
            with self.assertRaises(TooManyLayers) as held:
                accepts_short(kind, Paper(levels))
            self.assertEqual(held.exception.count, count)
        self.assertIs(accepts_short(kind, Paper([[], [], [], [item]])), False)
        self.assertIs(accepts_short(kind, Paper([[item], [item], [item], [], [item]])), False)


class FindTest(unittest.TestCase):

    def check(self, kind, short, structure):
        """Check an answer by point 7.1."""
        found = find_short(kind, short, structure)
        if not belongs(kind, structure):
            self.assertIsNone(found)
            return
        self.assertIs(type(found), tuple)
        number, names = found
        listed = short.levels[len(structure)][number].structure
        self.assertIs(type(names), tuple)
        self.assertEqual(renamed_by(kind, structure, names), listed)

    def test_all_structures(self):
        chance = random.Random(260)
        for kind, paper in papers(261):
            for short in [shorten(kind, paper), shortened_by_hand(kind, paper)]:
                for size in range(len(paper.levels)):
                    found = every_structure(kind, size)
                    for structure in found if len(found) <= 80 else chance.sample(found, 80):
                        self.check(kind, short, structure)

    def test_numbers(self):
        chance = random.Random(262)
        paper = paper_by_hand(GRAPHS, 4, chance)
        short = shorten(GRAPHS, paper)
        for structure in every_structure(GRAPHS, 4):
            self.assertEqual(find_short(GRAPHS, short, structure)[0], number_in(GRAPHS, paper, structure))

    def test_structures_that_are_not_of_the_kind(self):
        for name in ["tournaments", "orders", "equivalences", "trianglefree"]:
            kind = ready_kinds()[name]
            short = shorten(kind, write_up(kind, 3))
            wrong = [each for each in every_structure(kind, 3) if not belongs(kind, each)]
            self.assertTrue(wrong)
            for structure in wrong:
                self.assertIsNone(find_short(kind, short, structure))

    def test_larger_papers(self):
        chance = random.Random(263)
        short = shorten(GRAPHS, write_up(GRAPHS, 6))
        for _ in range(60):
            structure = tuple((tuple(chance.randrange(2) for _ in range(point)),) for point in range(6))
            number, names = find_short(GRAPHS, short, structure)
            self.assertEqual(renamed_by(GRAPHS, structure, names), short.levels[6][number].structure)

    def test_no_points(self):
        for kind, paper in papers(264):
            self.assertEqual(find_short(kind, shorten(kind, paper), ()), (0, ()))
        self.assertEqual(find_short(GRAPHS, Paper([[Item((), [], [])]]), ()), (0, ()))

    def test_classes(self):
        short = shorten(GRAPHS, write_up(GRAPHS, 4))
        found = every_structure(GRAPHS, 4)
        for one in found[::7]:
            for other in found[::5]:
                alike = find_short(GRAPHS, short, one)[0] == find_short(GRAPHS, short, other)[0]
                self.assertEqual(alike, in_one_class(GRAPHS, one, other))


if __name__ == "__main__":
    unittest.main()
