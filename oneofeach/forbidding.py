"""Kinds that are told by what they forbid."""

from oneofeach.kinds import Kind
from oneofeach.obstructions import obstructions
from oneofeach.places import places

# No sentence speaks of more points.
MOST_POINTS = 4


def forbid(relations, structures):
    """The kind of those structures of which no part is in the class of one of the given ones."""
    return Kind(relations, [(len(structure), denial(relations, structure)) for structure in structures])


def denial(relations, structure):
    """The formula that the points, in order, do not have the values of the structure."""
    return ("not", joined(atoms(relations, structure)))


def atoms(relations, structure):
    """The formulas that the relations have the values of the structure, for all places."""
    found = []
    for point, layer in enumerate(structure):
        for relation, numbers in zip(relations, layer):
            for place, number in zip(places(relation, point), numbers):
                found.append(("is", relation[0], place, number))
    return found


def joined(formulas):
    """The formulas joined by `and`, with little depth."""
    if len(formulas) < 2:
        return formulas[0] if formulas else ("true",)
    half = len(formulas) // 2
    return ("and", joined(formulas[:half]), joined(formulas[half:]))


def by_obstructions(kind):
    """The kind that forbids the obstructions of the kind."""
    levels = obstructions(kind, MOST_POINTS)
    return forbid(kind.relations, [structure for level in levels for structure in level])
