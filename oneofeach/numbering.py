"""Numbers for all structures of a kind, by an accepted paper."""

from oneofeach.moves import moved, sources
from oneofeach.renamings import followed, inverted


def number_of(kind, paper, structure):
    """The number of a structure of the kind among those with as many points."""
    counts = counts_towards(paper, len(structure))
    number = 0
    at = 0
    renaming = ()
    for point, layer in enumerate(structure):
        steps = steps_from(kind, paper.levels[point][at], renaming)
        number = number + sum([counts[point + 1][step[1]] for step in steps if step[0] < layer])
        shown = [step[0] for step in steps]
        at, renaming = steps[shown.index(layer)][1:]
    return number


def structure_at(kind, paper, size, number):
    """The structure with that number among those with so many points, or None."""
    counts = counts_towards(paper, size)
    if number < 0 or number >= counts[0][0]:
        return None
    structure = ()
    left = number
    at = 0
    renaming = ()
    for point in range(size):
        steps = steps_from(kind, paper.levels[point][at], renaming)
        step, left = step_to(steps, counts[point + 1], left)
        structure = structure + (step[0],)
        at, renaming = step[1:]
    return structure


def step_to(steps, counts, number):
    """The step behind which the structure with the number stands, and its number behind this step."""
    left = number
    for step in steps:
        if left < counts[step[1]]:
            return (step, left)
        left = left - counts[step[1]]
    return None


def counts_towards(paper, size):
    """For each size up to the given one, for each item: how many structures of that size begin with its structure."""
    counts = [[1 for _ in paper.levels[size]]]
    for level in reversed(paper.levels[:size]):
        after = counts[-1]
        counts.append([sum([after[step[1]] for step in item.steps]) for item in level])
    counts.reverse()
    return counts


def steps_from(kind, item, renaming):
    """The steps of a structure that the renaming brings to that of the item, ascending.

    They are tuples of a layer, the number of the listed structure that it leads to, and a renaming to this one.
    """
    point = len(item.structure)
    rows = sources(kind, point, inverted(renaming) + (point,))
    longer = renaming + (point,)
    return sorted([(moved(layer, rows), number, followed(longer, names)) for layer, number, names in item.steps])
