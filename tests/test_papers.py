"""The classes of oneofeach/papers.py, point 0.3."""

import unittest

from oneofeach.papers import Item, Paper


class ItemTest(unittest.TestCase):

    def test_fields(self):
        structure = (((),), ((1,),))
        lists = [[(0, 1), (1, 0)], [(0, 1)]]
        steps = [(((0, 0),), 1, (2, 0, 1)), (((0, 1),), 0, (0, 1, 2))]
        item = Item(structure, lists, steps)
        self.assertEqual(item.structure, structure)
        self.assertEqual(item.chain, lists)
        self.assertEqual(item.steps, steps)
        self.assertIs(type(item.chain), list)
        self.assertIs(type(item.chain[0]), list)
        self.assertIs(type(item.steps), list)

    def test_lists_are_copied(self):
        lists, steps = [[(0,)]], [(((0,),), 0, (0, 1))]
        item = Item((((),),), lists, steps)
        lists[0].append((1,))
        lists.append([])
        steps.clear()
        self.assertEqual(item.chain, [[(0,)]])
        self.assertEqual(item.steps, [(((0,),), 0, (0, 1))])

    def test_what_is_passed_in_stays(self):
        lists, steps = [[(0,)]], [(((0,),), 0, (0, 1))]
        Item((((),),), lists, steps)
        self.assertEqual((lists, steps), ([[(0,)]], [(((0,),), 0, (0, 1))]))

    def test_no_points(self):
        item = Item((), [], [])
        self.assertEqual((item.structure, item.chain, item.steps), ((), [], []))

    def test_nothing_is_checked(self):
        item = Item((5, ((),)), [[], [(7, 7)]], [((), -1, ())])
        self.assertEqual((item.structure, item.chain, item.steps), ((5, ((),)), [[], [(7, 7)]], [((), -1, ())]))


class PaperTest(unittest.TestCase):

    def test_fields(self):
        items = [Item((), [], []), Item((((),),), [[(0,)]], [])]
        paper = Paper([[items[0]], [items[1]], []])
        self.assertIs(type(paper.levels), list)
        self.assertTrue(all(type(level) is list for level in paper.levels))
        self.assertEqual([len(level) for level in paper.levels], [1, 1, 0])
        self.assertEqual(paper.levels[1][0].chain, [[(0,)]])

    def test_lists_are_copied(self):
        item = Item((), [], [])
        levels = [[item]]
        paper = Paper(levels)
        levels[0].append(item)
        levels.append([])
        self.assertEqual([len(level) for level in paper.levels], [1])

    def test_no_equality_of_their_own(self):
        self.assertNotEqual(Item((), [], []), Item((), [], []))
        self.assertNotEqual(Paper([]), Paper([]))


if __name__ == "__main__":
    unittest.main()
