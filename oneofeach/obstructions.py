"""Obstructions: what a kind forbids, and where a structure meets it."""

from itertools import permutations

from oneofeach.census import census
from oneofeach.formulas import condition_of
from oneofeach.kinds import Kind
from oneofeach.least import is_least
from oneofeach.structures import all_values, extensions, refuse_too_many_below


def is_obstruction(kind, structure):
    """Whether the structure is not of the kind though all its parts without one point are."""
    # A part without one point misses each failing set of which that point is one.
    return failing_sets(kind, structure) == [list(range(len(structure)))]


def obstructions(kind, size):
    """For each number of points up to the size the ascending list of the least obstructions."""
    refuse_too_many_below(kind, size)
    most = min(size, largest_count(kind))
    levels = [[]]
    if most > 0:
        for number, structures in enumerate(census(kind, most - 1)):
            shorter = Kind(kind.relations, [each for each in kind.sentences if each[0] <= number])
            levels.append([found for structure in structures for found in obstructed(kind, shorter, structure)])
    while len(levels) <= size:
        levels.append([])
    return levels


def largest_count(kind):
    """The largest count of a sentence of the kind, or 0."""
    return max([0] + [sentence[0] for sentence in kind.sentences])


def obstructed(kind, shorter, structure):
    """The least obstructions with one point more that begin with a structure of the kind.

    The other kind has those sentences that speak of fewer points than such an obstruction has.
    They hold in it, since they hold in its parts, so one of the sentences for all its points does not.
    """
    allowed = set(extensions(kind, structure))
    longer = [structure + (layer,) for layer in extensions(shorter, structure) if layer not in allowed]
    return [each for each in longer if is_least(kind, each)]


def offending(kind, structure):
    """An ascending list of points on which the part is an obstruction, or None if it is of the kind."""
    found = failing_sets(kind, structure)
    return min(found, key=len) if found else None


def failing_sets(kind, structure):
    """The ascending lists of points of the choices for which a sentence of the kind does not hold."""
    known = all_values(kind, structure)
    failing = set()
    for count, formula in kind.sentences:
        for choice in permutations(range(len(structure)), int(count)):
            chosen = tuple(sorted(choice))
            if chosen not in failing and condition_of(formula, choice, known, {}) is False:
                failing.add(chosen)
    return [list(chosen) for chosen in sorted(failing)]
