"""Renamings that lead from one structure to another."""

from oneofeach.refine import cells
from oneofeach.renamings import inverted
from oneofeach.structures import layer_in, places_below, tables_of


def match(kind, one, other):
    """A renaming that leads from the first structure to the second, or None if there is none."""
    here = cells(kind, one)
    there = cells(kind, other)
    # A renaming brings each point to a point of its cell.
    if sorted(here) != sorted(there):
        return None
    listed = places_below(kind, len(other))
    row = fitted(other, tables_of(kind, one), listed, alike(here, there), ())
    return None if row is None else inverted(row)


def alike(here, there):
    """For each point of the second structure the points of the first one with its cell."""
    return [[point for point, cell in enumerate(here) if cell == sought] for sought in there]


def fitted(target, tables, listed, choices, row):
    """A tuple of points that begins with the row and on which the part is the target, or None.

    The tables are those of the structure whose part is sought, listed has the places of the
    target, and choices has the points that may stand at each place of the tuple.
    """
    if len(row) == len(target):
        return row
    for longer in fitting(target, tables, listed, choices, row):
        found = fitted(target, tables, listed, choices, longer)
        if found is not None:
            return found
    return None


def fitting(target, tables, listed, choices, row):
    """The rows with one point more on which the part has one layer more of the target."""
    point = len(row)
    longer = [row + (each,) for each in choices[point] if each not in row]
    return [each for each in longer if layer_in(tables, listed[point], each) == target[point]]
