"""Calls of all functions of the interface, for the tests of what holds for each of them."""

from by_hand import paper_by_hand
from definitions import belongs, sample_kinds, some_structure
from oneofeach.census import census, labelled
from oneofeach.counting import orbit_count
from oneofeach.group import order, positions, symmetry_at, symmetry_number
from oneofeach.least import chain, is_least, least, plain_least, symmetries
from oneofeach.listing import all_structures, children, first, following
from oneofeach.matching import match
from oneofeach.obstructions import is_obstruction, obstructions, offending
from oneofeach.orbits import class_count, kept_count, point_orbits
from oneofeach.parts import joins, largest_part, with_deck
from oneofeach.places import places
from oneofeach.plain import plain_census, plain_classes, plain_symmetries
from oneofeach.profiles import embedding, occurrences, profile, telling
from oneofeach.refine import cells
from oneofeach.renamings import followed, inverted, is_renaming, is_symmetry, renamed
from oneofeach.sentences import atoms_of
from oneofeach.structures import (
    count_layers, extensions, has_shape, holds, is_of_kind, layers, part, value,
)
from oneofeach.tokens import tokenize
from oneofeach.walks import deck, find, same

# The functions that answer whether something is so.
ASKING = [has_shape, is_of_kind, holds, is_renaming, is_symmetry, is_least, is_obstruction]


def all_calls(chance):
    """Triples of the name of a kind, a function and a list of arguments."""
    found = [("none", tokenize, ["all x: mark(x) = 1\n"]), ("none", atoms_of, [("not", ("is", "mark", (0,), 1))])]
    for name, kind in sample_kinds().items():
        calls = calls_of_structures(kind, some_structure(kind, 3, chance))
        calls += calls_of_classes(kind, some_structure(kind, 3, chance))
        calls += calls_of_parts(kind, some_structure(kind, 4, chance))
        calls += calls_of_censuses(kind)
        if name != "mixed":
            calls += calls_with_papers(kind, chance)
        found.extend((name, function, arguments) for function, arguments in calls)
    return found


def calls_of_structures(kind, structure):
    """Functions about a structure with 3 points, its layers and renamings."""
    found = [
        (has_shape, [kind, structure]), (is_of_kind, [kind, structure]), (part, [kind, structure, [2, 0]]),
        (holds, [kind, structure, (2, ("true",))]), (count_layers, [kind, 3]),
        (is_renaming, [(0, 2, 1), 3]), (inverted, [(1, 2, 0)]), (followed, [(1, 2, 0), (0, 2, 1)]),
        (renamed, [kind, structure, (1, 2, 0)]), (is_symmetry, [kind, structure, (1, 2, 0)]),
    ]
    for name, arity, values, symmetric in kind.relations:
        found.append((places, [(name, arity, values, symmetric), 3]))
        found.append((value, [kind, structure, name, (2, 0, 1)[:arity]]))
    for point in range(3):
        if count_layers(kind, point) <= 4096:
            found.append((layers, [kind, point]))
            if belongs(kind, structure[:point]):
                found.append((extensions, [kind, structure[:point]]))
    return found


def calls_of_classes(kind, structure):
    """Functions about least structures, symmetries, cells, matches and counts."""
    lists = [[(0, 1, 2), (1, 2, 0), (2, 1, 0)], [(0, 1, 2), (0, 2, 1)], [(0, 1, 2)]]
    return [
        (plain_least, [kind, structure]), (least, [kind, structure]), (is_least, [kind, structure]),
        (symmetries, [kind, structure]), (chain, [kind, structure]), (cells, [kind, structure]),
        (match, [kind, structure, renamed(kind, structure, (1, 2, 0))]), (orbit_count, [kind.relations, 3]),
        (order, [lists]), (positions, [lists, (2, 0, 1)]), (symmetry_number, [lists, (2, 0, 1)]),
        (symmetry_at, [lists, 3]), (positions, [[[(0, 1)], [(0, 1)]], (1, 0)]),
        (plain_symmetries, [kind, structure]), (point_orbits, [kind, structure]),
    ]


def calls_of_parts(kind, structure):
    """Functions about what stands in a structure."""
    return [
        (is_obstruction, [kind, structure[:3]]), (offending, [kind, structure]), (largest_part, [kind, structure]),
        (occurrences, [kind, structure, structure[:2]]), (embedding, [kind, structure[:2], structure]),
        (telling, [kind, structure, structure[:3]]), (telling, [kind, structure, structure]),
    ]


def calls_of_censuses(kind):
    """Functions that list or count structures of the kind."""
    found = [
        (function, [kind, 2])
        for function in [census, labelled, plain_census, plain_classes, obstructions, all_structures, first, class_count]
    ]
    found.append((kept_count, [kind, 2, (1, 0)]))
    found.extend((children, [kind, structure]) for level in census(kind, 1) for structure in level[:2])
    found.extend((following, [kind, structure]) for structure in census(kind, 2)[2][:2])
    for layer in layers(kind, 0):
        if belongs(kind, (layer,)):
            found.append((joins, [kind, (), layer, layer]))
    return found


def calls_with_papers(kind, chance):
    """Functions that get a paper."""
    paper = paper_by_hand(kind, 2, chance)
    found = []
    for item in paper.levels[2]:
        one, other = item.structure, renamed(kind, item.structure, (1, 0))
        found.append((find, [kind, paper, one]))
        found.append((same, [kind, paper, one, other]))
        found.append((deck, [kind, paper, one]))
        found.append((profile, [kind, paper, one, 1]))
    found.append((with_deck, [kind, paper, 2, [0, 0]]))
    return found
