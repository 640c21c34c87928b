"""Counting classes of structures without listing them."""

from math import factorial

from oneofeach.places import places


def orbit_count(relations, size):
    """The number of classes of structures of so many points with these relations and no sentences."""
    total = 0
    for renaming, alike in kinds_of_renamings(size):
        kept = alike
        for relation in relations:
            for _ in cycles(relation, renaming):
                kept = kept * relation[2]
        total = total + kept
    return total // factorial(size)


def kinds_of_renamings(size):
    """For each way to cut the points into cycles a renaming and the number of all that move points so."""
    return [(renaming_of(lengths), count_alike(lengths, size)) for lengths in partitions(size, size)]


def partitions(size, most):
    """The descending lists of numbers from 1 to most that sum up to the size."""
    if size == 0:
        return [[]]
    return [[length] + rest for length in range(1, min(size, most) + 1) for rest in partitions(size - length, length)]


def renaming_of(lengths):
    """A renaming with cycles of these lengths."""
    names = []
    for length in lengths:
        start = len(names)
        names.extend(list(range(start + 1, start + length)))
        names.append(start)
    return tuple(names)


def count_alike(lengths, size):
    """The number of renamings with cycles of these lengths."""
    twofold = 1
    for length in range(1, size + 1):
        times = lengths.count(length)
        twofold = twofold * factorial(times)
        for _ in range(times):
            twofold = twofold * length
    return factorial(size) // twofold


def cycles(relation, renaming):
    """The cycles in which the renaming moves the places of the relation, as lists of places.

    A cycle begins with a place at the first point that any of its places is at.
    """
    found = []
    seen = set()
    for point in range(len(renaming)):
        for start in places(relation, point):
            if start not in seen:
                cycle = cycle_of(relation, renaming, start)
                for place in cycle:
                    seen.add(place)
                found.append(cycle)
    return found


def cycle_of(relation, renaming, start):
    """The places to which the renaming moves a place, again and again."""
    cycle = [start]
    while True:
        moved = tuple([renaming[point] for point in cycle[-1]])
        if relation[3]:
            moved = tuple(sorted(moved))
        if moved == start:
            return cycle
        cycle.append(moved)
