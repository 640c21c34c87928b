"""Largest parts, joined extensions, and structures with a given deck."""

from itertools import combinations

from oneofeach.obstructions import failing_sets
from oneofeach.places import places
from oneofeach.structures import extensions
from oneofeach.walks import number_without


def largest_part(kind, structure):
    """An ascending list of points, as long as possible, on which the part is of the kind."""
    failing = failing_sets(kind, structure)
    for left_out in range(len(structure)):
        for points in combinations(range(len(structure)), int(len(structure) - left_out)):
            if not has_one_of(points, failing):
                return list(points)
    return []


def has_one_of(points, lists):
    """Whether all points of one of the lists are among the points."""
    return any([all([point in points for point in each]) for each in lists])


def joins(kind, structure, one, other):
    """The ascending list of the layers that join two extensions of a structure of the kind."""
    point = len(structure)
    return [layer for layer in extensions(kind, structure + (one,)) if without_point(kind, layer, point) == other]


def without_point(kind, layer, point):
    """What is left of a layer at the point behind the given one, when that one is left out."""
    left = []
    for relation, numbers in zip(kind.relations, layer):
        listed = places(relation, point + 1)
        left.append(tuple([number for place, number in zip(listed, numbers) if point not in place]))
    return tuple(left)


def with_deck(kind, paper, size, numbers):
    """The ascending list of the numbers of the listed structures of the size with that deck."""
    level = paper.levels[size]
    return [number for number, item in enumerate(level) if has_deck(kind, paper, item.structure, numbers)]


def has_deck(kind, paper, structure, numbers):
    """Whether the numbers, in some order, are the deck of the structure."""
    left = list(numbers)
    for point in range(len(structure)):
        number = number_without(kind, paper, structure, point)
        if number not in left:
            return False
        left.remove(number)
    return not left
