"""Finding structures in an accepted paper."""

from oneofeach.renamings import followed, inverted
from oneofeach.structures import is_of_kind, layer_in, part, places_below, tables_of


def find(kind, paper, structure):
    """The number of the listed structure with a renaming to it, or None if it is not of the kind."""
    return walked(kind, paper, structure) if is_of_kind(kind, structure) else None


def walked(kind, paper, structure):
    """The number of the listed structure with a renaming to it, for a structure of the kind."""
    tables = tables_of(kind, structure)
    number = 0
    renaming = ()
    for point, at in enumerate(places_below(kind, len(structure))):
        # The listed structure names the points so far anew, and the layer is looked up in its names.
        longer = renaming + (point,)
        layer = layer_in(tables, at, inverted(longer))
        step = step_of(paper.levels[point][number], layer)
        number = step[1]
        renaming = followed(longer, step[2])
    return (number, renaming)


def step_of(item, layer):
    """The step of the item with that layer."""
    shown = [step[0] for step in item.steps]
    return item.steps[shown.index(layer)]


def same(kind, paper, one, other):
    """A renaming that leads from one structure of the kind to another one, or None."""
    if len(one) != len(other):
        return None
    here = walked(kind, paper, one)
    there = walked(kind, paper, other)
    return followed(here[1], inverted(there[1])) if here[0] == there[0] else None


def deck(kind, paper, structure):
    """The ascending list of the numbers of the parts that leave out one point."""
    return sorted([number_without(kind, paper, structure, point) for point in range(len(structure))])


def number_without(kind, paper, structure, left_out):
    """The number of the part that leaves out one point."""
    points = [point for point in range(len(structure)) if point != left_out]
    return walked(kind, paper, part(kind, structure, points))[0]
