"""Telling the points of a structure apart."""

from oneofeach.places import places


def cells(kind, structure):
    """The cells of the points: their colours behind the last round."""
    seen = sights_of(kind, structure)
    colours = [0] * len(structure)
    while True:
        signatures = [signature(colour, sights, colours) for colour, sights in zip(colours, seen)]
        ranks = {each: rank for rank, each in enumerate(sorted(set(signatures)))}
        before = len(set(colours))
        colours = [ranks[each] for each in signatures]
        if len(ranks) <= before:
            return colours


def sights_of(kind, structure):
    """For each point the places that contain it, as tuples (relation, position, value, points)."""
    seen = [[] for _ in structure]
    for number, relation in enumerate(kind.relations):
        for point, layer in enumerate(structure):
            for place, given in zip(places(relation, point), layer[number]):
                for position, member in enumerate(place):
                    seen[member].append(sight(relation, number, given, place, position))
    return seen


def sight(relation, number, given, place, position):
    """A place as the point at the position sees it, with the points whose colours count."""
    if relation[3]:
        return (number, -1, given, place[:position] + place[position + 1:])
    return (number, position, given, place)


def signature(colour, sights, colours):
    """The colour of a point with the ascending rows of the places that contain it."""
    rows = []
    for number, position, given, points in sights:
        shown = [colours[point] for point in points]
        rows.append((number, position, given, tuple(sorted(shown) if position < 0 else shown)))
    return (colour, tuple(sorted(rows)))
