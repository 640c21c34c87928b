"""Checking papers, wherever they come from."""

from math import factorial

from oneofeach.group import order
from oneofeach.renamings import is_renaming, is_symmetry, renamed
from oneofeach.structures import extensions, is_of_kind, refuse_too_many


def weight(item):
    """The number of structures of the item's class as its chain tells it, or None if it is no integer."""
    ways = factorial(len(item.structure))
    count = order(item.chain)
    return ways // count if ways % count == 0 else None


def accepts(kind, paper):
    """Whether the paper is accepted for the kind."""
    refuse_too_many_steps(kind, paper)
    if not is_sound(kind, paper):
        return False
    for level, after in zip(paper.levels, paper.levels[1:]):
        if not is_followed(kind, level, after):
            return False
    return True


def refuse_too_many_steps(kind, paper):
    """Raise TooManyLayers for the first size at which an item has too many layers to be added."""
    for size, level in enumerate(paper.levels[:-1]):
        if len(level) > 0:
            refuse_too_many(kind, size)


def is_sound(kind, paper):
    """Whether the paper meets what is required but for the steps that lead from list to list."""
    if not has_start(paper):
        return False
    for size, level in enumerate(paper.levels):
        for item in level:
            if not has_structure(kind, item, size) or not has_chain(kind, item) or weight(item) is None:
                return False
    return all([len(item.steps) == 0 for item in paper.levels[-1]])


def has_start(paper):
    """Whether there is exactly one item without points."""
    return [len(level) for level in paper.levels[:1]] == [1]


def has_structure(kind, item, size):
    """Whether the structure is of the kind and has so many points."""
    return len(item.structure) == size and is_of_kind(kind, item.structure)


def has_chain(kind, item):
    """Whether the chain has a list of symmetries for each point, as they may stand there."""
    if len(item.chain) != len(item.structure):
        return False
    return all([are_for_point(kind, item.structure, row, point) for point, row in enumerate(item.chain)])


def are_for_point(kind, structure, renamings, point):
    """Whether the renamings may stand in the list of the point."""
    for renaming in renamings:
        if not is_renaming(renaming, len(structure)) or renaming[:point] != tuple(range(point)):
            return False
        if not is_symmetry(kind, structure, renaming):
            return False
    return len(renamings) > 0 and len(set([renaming[point] for renaming in renamings])) == len(renamings)


def is_followed(kind, level, after):
    """Whether the steps of a list are right and the next list has neither too many items nor too few."""
    total = 0
    for item in level:
        found = extensions(kind, item.structure)
        if layers_of(item) != found or not leads_on(kind, item, after):
            return False
        total = total + weight(item) * len(found)
    return total == total_weight(after)


def layers_of(item):
    """The layers of the steps of the item."""
    return [step[0] for step in item.steps]


def leads_on(kind, item, after):
    """Whether the number and the renaming of each step are right; the layers of the steps are extensions."""
    return all([is_right(kind, item.structure, step, after) for step in item.steps])


def is_right(kind, structure, step, after):
    """Whether a step leads to the structure that it names in the next list."""
    layer, number, renaming = step
    if not 0 <= number < len(after) or not is_renaming(renaming, len(structure) + 1):
        return False
    return renamed(kind, structure + (layer,), renaming) == after[number].structure


def total_weight(level):
    """The sum of the weights of the items."""
    return sum([weight(item) for item in level])
