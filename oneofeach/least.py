"""Least structures and symmetries."""

from itertools import permutations

from oneofeach.matching import alike, fitted, fitting
from oneofeach.refine import cells
from oneofeach.renamings import inverted
from oneofeach.structures import layer_in, part_in, places_below, tables_of


def plain_least(kind, structure):
    """The least form, found by trying all renamings, with the smallest renaming."""
    tables = tables_of(kind, structure)
    listed = places_below(kind, len(structure))
    best = (structure, tuple(range(len(structure))))
    for renaming in permutations(range(len(structure))):
        best = min(best, (part_in(tables, listed, inverted(renaming)), renaming))
    return best


def least(kind, structure):
    """The least structure of the class with a renaming that leads to it."""
    tables = tables_of(kind, structure)
    listed = places_below(kind, len(structure))
    before = twins_before(structure, tables, listed)
    chosen = []
    rows = [()]
    for at in listed:
        longer = [each for row in rows for each in longer_rows(row, before)]
        found = [layer_in(tables, at, row) for row in longer]
        chosen.append(min(found))
        rows = [row for row, layer in zip(longer, found) if layer == chosen[-1]]
    return (tuple(chosen), inverted(rows[0]))


def is_least(kind, structure):
    """Whether no renamed structure is smaller."""
    tables = tables_of(kind, structure)
    listed = places_below(kind, len(structure))
    before = twins_before(structure, tables, listed)
    return not is_beaten(structure, tables, listed, before, ())


def is_beaten(structure, tables, listed, before, row):
    """Whether some order of the points that begins with the row gives a smaller structure.

    The part on the row is the first layers of the structure.
    """
    point = len(row)
    for longer in longer_rows(row, before):
        layer = layer_in(tables, listed[point], longer)
        if layer < structure[point]:
            return True
        if layer == structure[point] and is_beaten(structure, tables, listed, before, longer):
            return True
    return False


def longer_rows(row, before):
    """The row with one point more, each point behind the twin before it."""
    return [
        row + (point,) for point, twin in enumerate(before) if point not in row and (twin is None or twin in row)
    ]


def twins_before(structure, tables, listed):
    """For each point the greatest twin before it, or None.

    Twins can change places in the structure, so that one order of them is as good as another.
    """
    return [twin_before(structure, tables, listed, point) for point in range(len(structure))]


def twin_before(structure, tables, listed, point):
    """The greatest twin before the point, or None."""
    for other in reversed(range(point)):
        if are_twins(structure, tables, listed, other, point):
            return other
    return None


def are_twins(structure, tables, listed, low, high):
    """Whether the structure stays the same when the two points change places."""
    row = list(range(len(structure)))
    row[low] = high
    row[high] = low
    for point in range(low, len(structure)):
        if layer_in(tables, listed[point], row) != structure[point]:
            return False
    return True


def symmetries(kind, structure):
    """The ascending list of all symmetries."""
    tables = tables_of(kind, structure)
    listed = places_below(kind, len(structure))
    found = cells(kind, structure)
    choices = alike(found, found)
    # The orders of the points that give the structure itself are its symmetries, as their inverses are.
    rows = [()]
    for _ in structure:
        rows = [longer for row in rows for longer in fitting(structure, tables, listed, choices, row)]
    return rows


def chain(kind, structure):
    """A chain of symmetries: for each point one list."""
    tables = tables_of(kind, structure)
    listed = places_below(kind, len(structure))
    found = cells(kind, structure)
    choices = alike(found, found)
    lists = []
    for point in range(len(structure)):
        kept = tuple(range(point))
        starts = fitting(structure, tables, listed, choices, kept)
        rows = [fitted(structure, tables, listed, choices, start) for start in starts]
        lists.append([row for row in rows if row is not None])
    return lists
