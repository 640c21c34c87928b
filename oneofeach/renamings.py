"""Renamings of points, and symmetries."""

from oneofeach.structures import part


def is_renaming(names, size):
    """Whether the tuple of integers is a renaming of so many points."""
    return sorted(names) == list(range(size))


def inverted(renaming):
    """The renaming that leads back."""
    points = [0] * len(renaming)
    for point, name in enumerate(renaming):
        points[name] = point
    return tuple(points)


def followed(first, second):
    """The renaming that gives each point the second name of its first name."""
    return tuple([second[name] for name in first])


def renamed(kind, structure, renaming):
    """The structure that gives to the new names what the structure gives to the points."""
    return part(kind, structure, list(inverted(renaming)))


def is_symmetry(kind, structure, renaming):
    """Whether the structure stays the same with the renaming."""
    return renamed(kind, structure, renaming) == structure
