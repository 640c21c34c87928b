"""How often, and where, small structures stand in a structure."""

from itertools import combinations

from oneofeach.least import least
from oneofeach.matching import fitted
from oneofeach.structures import part, places_below, tables_of
from oneofeach.walks import walked


def occurrences(kind, structure, small):
    """The number of sets of points on which the part is in the class of the small structure."""
    tables = tables_of(kind, structure)
    listed = places_below(kind, len(small))
    count = 0
    for points in combinations(range(len(structure)), len(small)):
        if fitted(small, tables, listed, [points] * len(small), ()) is not None:
            count += 1
    return count


def profile(kind, paper, structure, size):
    """For each listed structure of the size its number of occurrences in a structure of the kind."""
    counts = [0] * len(paper.levels[size])
    for points in combinations(range(len(structure)), size):
        counts[walked(kind, paper, part(kind, structure, list(points)))[0]] += 1
    return counts


def embedding(kind, small, structure):
    """A tuple of points on which the part is the small structure itself, or None."""
    choices = [list(range(len(structure)))] * len(small)
    return fitted(small, tables_of(kind, structure), places_below(kind, len(small)), choices, ())


def telling(kind, one, other):
    """The first least structure that does not occur equally often in both, with its numbers, or None."""
    for size in range(1, max(len(one), len(other)) + 1):
        here = least_parts(kind, one, size)
        there = least_parts(kind, other, size)
        for small in sorted(here + there):
            if here.count(small) != there.count(small):
                return (small, here.count(small), there.count(small))
    return None


def least_parts(kind, structure, size):
    """The least structures of the classes of all parts with so many points."""
    found = []
    for points in combinations(range(len(structure)), size):
        found.append(least(kind, part(kind, structure, list(points)))[0])
    return found
