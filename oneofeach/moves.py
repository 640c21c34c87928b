"""How the symmetries of a structure move the layers that may be added to it."""

from oneofeach.places import places
from oneofeach.renamings import followed, inverted


def sources(kind, point, renaming):
    """For each relation and each place at the point the number of the place whose value comes to stand there.

    The renaming is one of all points up to the given one, which it keeps.
    """
    back = inverted(renaming)
    rows = []
    for relation in kind.relations:
        listed = places(relation, point)
        before = [tuple([back[each] for each in place]) for place in listed]
        if relation[3]:
            before = [tuple(sorted(place)) for place in before]
        rows.append([listed.index(place) for place in before])
    return rows


def moved(layer, rows):
    """The layer in which the values stand as the sources tell."""
    return tuple([tuple([numbers[at] for at in row]) for numbers, row in zip(layer, rows)])


def moves_of(kind, lists, point):
    """Pairs of a renaming of the chain, the new point kept, and the sources for the layer at this point."""
    kept = tuple(range(point))
    longer = [renaming + (point,) for renamings in lists for renaming in renamings if renaming != kept]
    return [(renaming, sources(kind, point, renaming)) for renaming in longer]


def orbit_of_layer(moves, layer, point):
    """A dict of all layers at the point to which the moves bring the layer, each with a renaming that does."""
    reached = {layer: tuple(range(point + 1))}
    queue = [layer]
    done = 0
    while done < len(queue):
        for renaming, rows in moves:
            other = moved(queue[done], rows)
            if other not in reached:
                reached[other] = followed(reached[queue[done]], renaming)
                queue.append(other)
        done += 1
    return reached


def least_layers(kind, lists, point, found):
    """The least layers of the orbits of the layers that were found at the point, which are in ascending order."""
    moves = moves_of(kind, lists, point)
    seen = set()
    chosen = []
    for layer in found:
        if layer not in seen:
            chosen.append(layer)
            reached = orbit_of_layer(moves, layer, point)
            for other in reached:
                seen.add(other)
    return chosen


def all_steps(kind, lists, point, steps):
    """The steps for all layers in the orbits of those that have steps, in ascending order of layers."""
    moves = moves_of(kind, lists, point)
    found = []
    for layer, number, renaming in steps:
        reached = orbit_of_layer(moves, layer, point)
        for other, names in reached.items():
            found.append((other, number, followed(inverted(names), renaming)))
    return sorted(found)
