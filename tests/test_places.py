"""Point 2.1."""

import unittest

from definitions import listed_places
from oneofeach.places import places


class PlacesTest(unittest.TestCase):

    def test_against_the_definition(self):
        for arity in (1, 2, 3):
            for symmetric in (True, False):
                for point in range(7):
                    relation = ("r", arity, 2, symmetric)
                    with self.subTest(relation=relation, point=point):
                        self.assertEqual(places(relation, point), listed_places(relation, point))

    def test_kinds_of_values(self):
        for symmetric in (True, False):
            found = places(("r", 2, 2, symmetric), 3)
            self.assertIs(type(found), list)
            self.assertEqual({type(place) for place in found}, {tuple})

    def test_example(self):
        self.assertEqual(places(("r", 2, 2, False), 2), [(0, 2), (1, 2), (2, 0), (2, 1)])
        self.assertEqual(places(("r", 2, 2, True), 2), [(0, 2), (1, 2)])

    def test_arity_three(self):
        self.assertEqual(places(("r", 3, 2, True), 3), [(0, 1, 3), (0, 2, 3), (1, 2, 3)])
        self.assertEqual(
            places(("r", 3, 2, False), 2),
            [(0, 1, 2), (0, 2, 1), (1, 0, 2), (1, 2, 0), (2, 0, 1), (2, 1, 0)],
        )

    def test_arity_one(self):
        for point in range(7):
            for symmetric in (True, False):
                self.assertEqual(places(("r", 1, 5, symmetric), point), [(point,)])

    def test_points_too_small_for_the_arity(self):
        for symmetric in (True, False):
            self.assertEqual(places(("r", 2, 2, symmetric), 0), [])
            self.assertEqual(places(("r", 3, 2, symmetric), 0), [])
            self.assertEqual(places(("r", 3, 2, symmetric), 1), [])

    def test_numbers(self):
        for point in range(7):
            self.assertEqual(len(places(("r", 2, 2, False), point)), 2 * point)
            self.assertEqual(len(places(("r", 3, 2, False), point)), 3 * point * (point - 1))
            self.assertEqual(len(places(("r", 2, 2, True), point)), point)
            self.assertEqual(len(places(("r", 3, 2, True), point)), point * (point - 1) // 2)

    def test_number_of_values_does_not_matter(self):
        self.assertEqual(places(("r", 2, 1, False), 3), places(("s", 2, 10 ** 9 - 1, False), 3))

    def test_lists_are_new(self):
        for symmetric in (True, False):
            relation = ("r", 2, 2, symmetric)
            first = places(relation, 3)
            expected = list(first)
            first.clear()
            self.assertEqual(places(relation, 3), expected)


if __name__ == "__main__":
    unittest.main()
