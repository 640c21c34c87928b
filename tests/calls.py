"""Calls of all functions of the interface, for the tests of what holds for each of them."""

from by_hand import paper_by_hand
from definitions import belongs, sample_kinds, says, some_structure
from oneofeach.census import census, labelled
from oneofeach.checker import accepts, weight
from oneofeach.counting import orbit_count
from oneofeach.forbidding import by_obstructions, forbid
from oneofeach.group import order, positions, symmetry_at, symmetry_number
from oneofeach.kinds import Kind, read_kind, ready, write_kind
from oneofeach.least import chain, is_least, least, plain_least, symmetries
from oneofeach.listing import all_structures, children, first, following
from oneofeach.matching import match
from oneofeach.numbering import number_of, structure_at
from oneofeach.obstructions import is_obstruction, obstructions, offending
from oneofeach.orbits import class_count, kept_count, point_orbits
from oneofeach.papers import Paper, write_up
from oneofeach.parts import joins, largest_part, with_deck
from oneofeach.places import places
from oneofeach.plain import plain_census, plain_classes, plain_symmetries
from oneofeach.profiles import embedding, occurrences, profile, telling
from oneofeach.reasons import why_refused
from oneofeach.refine import cells
from oneofeach.renamings import followed, inverted, is_renaming, is_symmetry, renamed
from oneofeach.sentences import atoms_of, read_sentence, write_sentence
from oneofeach.short import accepts_short, find_short, lengthen, shorten
from oneofeach.structures import (
    count_layers, extensions, has_shape, holds, is_of_kind, layers, part, value,
)
from oneofeach.tokens import tokenize
from oneofeach.translation import Translation, class_map, translated
from oneofeach.walks import deck, find, same
from oneofeach.written import audit, read_paper, read_structure, write_paper, write_structure

# The functions that answer whether something is so.
ASKING = [has_shape, is_of_kind, holds, is_renaming, is_symmetry, is_least, is_obstruction, accepts, accepts_short]


def all_calls(chance):
    """Triples of the name of a kind, a function and a list of arguments."""
    found = [("none", function, arguments) for function, arguments in calls_of_texts()]
    for name, kind in sample_kinds().items():
        calls = calls_of_structures(kind, some_structure(kind, 3, chance))
        calls += calls_of_classes(kind, some_structure(kind, 3, chance))
        calls += calls_of_parts(kind, some_structure(kind, 4, chance))
        calls += calls_of_censuses(kind)
        if name != "mixed":
            calls += calls_with_papers(kind, chance)
        found.extend((name, function, arguments) for function, arguments in calls)
    return found


def calls_of_texts():
    """Functions about texts, and formulas without a kind."""
    formula = ("not", ("and", ("is", "mark", (0,), 1), ("true",)))
    return [
        (tokenize, ["all x: mark(x) = 1\n"]), (atoms_of, [formula]), (ready, ["orders"]),
        (read_sentence, ["all x y: not mark(y) = 1"]), (write_sentence, [(1, formula)]),
        (read_kind, ["relation mark 1 values 2\nall x: mark(x) = 1"]), (read_structure, ["- 0 1,1"]),
        (read_paper, ["level 0\nitem\nstep - to 0 by 0\nlevel 1\nitem -\nchain 0"]),
    ]


def calls_of_structures(kind, structure):
    """Functions about a structure with 3 points, its layers and renamings."""
    found = [
        (has_shape, [kind, structure]), (is_of_kind, [kind, structure]), (part, [kind, structure, [2, 0]]),
        (holds, [kind, structure, (2, ("true",))]), (count_layers, [kind, 3]),
        (is_renaming, [(0, 2, 1), 3]), (inverted, [(1, 2, 0)]), (followed, [(1, 2, 0), (0, 2, 1)]),
        (renamed, [kind, structure, (1, 2, 0)]), (is_symmetry, [kind, structure, (1, 2, 0)]),
    ]
    found.append((write_structure, [structure]))
    found.append((write_kind, [kind]))
    rules = [(name, [("true",)] * (values - 1)) for name, arity, values, symmetric in kind.relations]
    found.append((translated, [Translation(kind, kind, rules), structure]))
    for name, arity, values, symmetric in kind.relations:
        found.append((places, [(name, arity, values, symmetric), 3]))
        found.append((value, [kind, structure, name, (2, 0, 1)[:arity]]))
    for point in range(3):
        if count_layers(kind, point) <= 4096:
            found.append((layers, [kind, point]))
            if belongs(kind, structure[:point]):
                found.append((extensions, [kind, structure[:point]]))
    return found


def calls_of_classes(kind, structure):
    """Functions about least structures, symmetries, cells, matches and counts."""
    lists = [[(0, 1, 2), (1, 2, 0), (2, 1, 0)], [(0, 1, 2), (0, 2, 1)], [(0, 1, 2)]]
    return [
        (plain_least, [kind, structure]), (least, [kind, structure]), (is_least, [kind, structure]),
        (symmetries, [kind, structure]), (chain, [kind, structure]), (cells, [kind, structure]),
        (match, [kind, structure, renamed(kind, structure, (1, 2, 0))]), (orbit_count, [kind.relations, 3]),
        (order, [lists]), (positions, [lists, (2, 0, 1)]), (symmetry_number, [lists, (2, 0, 1)]),
        (symmetry_at, [lists, 3]), (positions, [[[(0, 1)], [(0, 1)]], (1, 0)]),
        (plain_symmetries, [kind, structure]), (point_orbits, [kind, structure]),
    ]


def calls_of_parts(kind, structure):
    """Functions about what stands in a structure."""
    return [
        (is_obstruction, [kind, structure[:3]]), (offending, [kind, structure]), (largest_part, [kind, structure]),
        (occurrences, [kind, structure, structure[:2]]), (embedding, [kind, structure[:2], structure]),
        (telling, [kind, structure, structure[:3]]), (telling, [kind, structure, structure]),
        (forbid, [kind.relations, [structure[:1], structure[:2]]]),
    ]


def calls_of_censuses(kind):
    """Functions that list or count structures of the kind."""
    found = [
        (function, [kind, 2])
        for function in [census, labelled, plain_census, plain_classes, obstructions, all_structures, first, class_count]
    ]
    found.append((write_up, [kind, 2]))
    if all(count_layers(kind, point) <= 4096 for point in range(4)):
        found.append((by_obstructions, [kind]))
    found.append((kept_count, [kind, 2, (1, 0)]))
    found.extend((children, [kind, structure]) for level in census(kind, 1) for structure in level[:2])
    found.extend((following, [kind, structure]) for structure in census(kind, 2)[2][:2])
    for layer in layers(kind, 0):
        if belongs(kind, (layer,)):
            found.append((joins, [kind, (), layer, layer]))
    return found


def calls_with_papers(kind, chance):
    """Functions that get a paper."""
    paper = paper_by_hand(kind, 2, chance)
    found = []
    for item in paper.levels[2]:
        one, other = item.structure, renamed(kind, item.structure, (1, 0))
        found.append((find, [kind, paper, one]))
        found.append((same, [kind, paper, one, other]))
        found.append((deck, [kind, paper, one]))
        found.append((profile, [kind, paper, one, 1]))
        found.append((find_short, [kind, shorten(kind, paper), one]))
        found.append((number_of, [kind, paper, one]))
        found.append((weight, [item]))
    found.append((with_deck, [kind, paper, 2, [0, 0]]))
    found.append((structure_at, [kind, paper, 2, 1]))
    short = shorten(kind, paper)
    wrong = Paper(paper.levels[:2] + [paper.levels[2] * 2 + paper.levels[0]])
    for each in [paper, short, wrong]:
        found.extend((function, [kind, each]) for function in [accepts, accepts_short, why_refused])
        found.append((write_paper, [each]))
        found.append((audit, [kind, write_paper(each)]))
    found.append((shorten, [kind, paper]))
    found.append((lengthen, [kind, short]))
    target = Kind([("edge", 2, 2, True)], [(2, says("edge", (0, 1), 1))])
    translation = Translation(kind, target, [("edge", [("true",)])])
    found.append((class_map, [translation, paper, paper_by_hand(target, 2, chance), 2]))
    return found
