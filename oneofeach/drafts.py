"""What the paper of a kind says, list by list."""

from oneofeach.census import census
from oneofeach.least import chain, least
from oneofeach.moves import all_steps, least_layers
from oneofeach.structures import extensions


def drafts(kind, size):
    """For each size the list of the items of the paper, as tuples (structure, chain, steps)."""
    levels = census(kind, size)
    found = []
    for level, after in zip(levels, levels[1:]):
        numbers = {structure: number for number, structure in enumerate(after)}
        found.append([draft(kind, structure, numbers) for structure in level])
    found.append([(structure, chain(kind, structure), []) for structure in levels[-1]])
    return found


def draft(kind, structure, numbers):
    """An item; the numbers are those of the least structures with one point more."""
    lists = chain(kind, structure)
    point = len(structure)
    steps = []
    # One layer of each orbit is enough, as the symmetries tell what the other ones lead to.
    for layer in least_layers(kind, lists, point, extensions(kind, structure)):
        longer, renaming = least(kind, structure + (layer,))
        steps.append((layer, numbers[longer], renaming))
    return (structure, lists, all_steps(kind, lists, point, steps))
