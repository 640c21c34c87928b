"""Censuses of the structures of a kind."""

from math import factorial

from oneofeach.group import order
from oneofeach.least import chain, is_least
from oneofeach.structures import extensions, refuse_too_many_below


def census(kind, size):
    """For each number of points up to the size the ascending list of the least structures."""
    refuse_too_many_below(kind, size)
    levels = [[()]]
    for _ in range(size):
        # The first layers of a least structure are least, so the last list leads to all of the next.
        levels.append([longer for structure in levels[-1] for longer in grown(kind, structure)])
    return levels


def grown(kind, structure):
    """The least structures with one point more that begin with the layers of a least structure."""
    longer = [structure + (layer,) for layer in extensions(kind, structure)]
    return [each for each in longer if is_least(kind, each)]


def labelled(kind, size):
    """The number of all structures of the kind with so many points."""
    if size == 0:
        return 1
    refuse_too_many_below(kind, size)
    total = 0
    for structure in census(kind, size - 1)[-1]:
        alike = factorial(size - 1) // order(chain(kind, structure))
        total = total + alike * len(extensions(kind, structure))
    return total
