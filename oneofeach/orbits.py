"""Orbits of points, and counting what renamings keep."""

from math import factorial

from oneofeach.counting import cycles, kinds_of_renamings
from oneofeach.least import chain
from oneofeach.places import places
from oneofeach.structures import extensions


def point_orbits(kind, structure):
    """The orbits of the points, as ascending lists in the order of their first points."""
    moves = [renaming for renamings in chain(kind, structure) for renaming in renamings]
    orbits = []
    for point in range(len(structure)):
        if not any([point in orbit for orbit in orbits]):
            orbits.append(orbit_of(point, moves))
    return orbits


def orbit_of(point, moves):
    """The ascending list of the points to which the renamings bring the point, one after another."""
    orbit = [point]
    done = 0
    while done < len(orbit):
        for move in moves:
            if move[orbit[done]] not in orbit:
                orbit.append(move[orbit[done]])
        done += 1
    return sorted(orbit)


def kept_count(kind, size, renaming):
    """The number of structures of the kind with so many points that the renaming keeps."""
    pairs = equal_slots(kind, renaming)
    found = [()]
    for point in range(size):
        longer = [structure + (layer,) for structure in found for layer in extensions(kind, structure)]
        found = [structure for structure in longer if agrees(structure, pairs[point])]
    return len(found)


def equal_slots(kind, renaming):
    """For each point the pairs of slots, the first one at it, that have equal values in what is kept."""
    pairs = [[] for _ in renaming]
    for index, relation in enumerate(kind.relations):
        for cycle in cycles(relation, renaming):
            slots = [slot_of(relation, index, place) for place in cycle]
            # A cycle begins with its first place, so the other slot is never at a later point.
            for slot in slots:
                pairs[slot[0]].append((slot, slots[0]))
    return pairs


def slot_of(relation, index, place):
    """Where a structure has the value at a place: its layer, the relation, the number of the place."""
    point = max(place)
    return (point, index, places(relation, point).index(place))


def agrees(structure, pairs):
    """Whether the structure has equal values at the slots of each pair."""
    for one, other in pairs:
        if structure[one[0]][one[1]][one[2]] != structure[other[0]][other[1]][other[2]]:
            return False
    return True


def class_count(kind, size):
    """The number of classes of structures of the kind with so many points."""
    total = 0
    for renaming, alike in kinds_of_renamings(size):
        # Renamings with cycles of the same lengths keep equally many structures.
        total = total + alike * kept_count(kind, size, renaming)
    return total // factorial(size)
