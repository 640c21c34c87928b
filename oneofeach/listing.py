"""Going through the structures of a kind one by one."""

from oneofeach.census import grown
from oneofeach.least import is_least
from oneofeach.structures import extensions, refuse_too_many_below


def all_structures(kind, size):
    """The ascending list of all structures of the kind with so many points."""
    refuse_too_many_below(kind, size)
    found = [()]
    for _ in range(size):
        found = [structure + (layer,) for structure in found for layer in extensions(kind, structure)]
    return found


def children(kind, structure):
    """The least structures with one point more whose first layers are the least structure, ascending."""
    return grown(kind, structure)


def first(kind, size):
    """The first least structure of the kind with so many points, or None."""
    refuse_too_many_below(kind, size)
    return first_from(kind, (), size)


def first_from(kind, structure, size):
    """The first least structure with so many points that begins with a least structure, or None."""
    if len(structure) == size:
        return structure
    return first_among(kind, structure, extensions(kind, structure), size)


def first_among(kind, structure, layers, size):
    """The first one that goes on with one of the layers, which are in ascending order, or None."""
    for layer in layers:
        longer = structure + (layer,)
        if is_least(kind, longer):
            found = first_from(kind, longer, size)
            if found is not None:
                return found
    return None


def following(kind, structure):
    """The least structure of the kind that follows a least structure among those of its size, or None."""
    for point in reversed(range(len(structure))):
        begun = structure[:point]
        layers = [layer for layer in extensions(kind, begun) if layer > structure[point]]
        found = first_among(kind, begun, layers, len(structure))
        if found is not None:
            return found
    return None
