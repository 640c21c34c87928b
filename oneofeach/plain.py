"""Plain answers: by listing all structures and trying all renamings."""

from itertools import permutations

from oneofeach.listing import all_structures
from oneofeach.structures import part_in, places_below, refuse_too_many_below, tables_of


def plain_census(kind, size):
    """The census, made from all structures and all renamings."""
    refuse_too_many_below(kind, size)
    levels = []
    for number in range(size + 1):
        levels.append([members[0] for members in plain_classes(kind, number)])
    return levels


def plain_symmetries(kind, structure):
    """The ascending list of all symmetries."""
    tables = tables_of(kind, structure)
    listed = places_below(kind, len(structure))
    # The orders of the points that give the structure itself are its symmetries, as their inverses are.
    return [row for row in permutations(range(len(structure))) if part_in(tables, listed, row) == structure]


def plain_classes(kind, size):
    """For each class of structures of the kind the ascending list of its structures."""
    listed = places_below(kind, size)
    seen = set()
    classes = []
    for structure in all_structures(kind, size):
        if structure not in seen:
            classes.append(members_of(kind, structure, listed))
            for member in classes[-1]:
                seen.add(member)
    return classes


def members_of(kind, structure, listed):
    """The ascending list of the structures of the class."""
    tables = tables_of(kind, structure)
    return sorted({part_in(tables, listed, row) for row in permutations(range(len(structure)))})
