"""Structures of a kind: shape, values, parts, sentences and layers."""

from itertools import permutations

from oneofeach.errors import TooManyLayers
from oneofeach.formulas import condition_of, is_met, last_slot
from oneofeach.places import places

MOST_LAYERS = 4096


def has_shape(kind, structure):
    """Whether the structure is a tuple of layers of the kind's relations with their values."""
    return all([is_layer(kind, layer, point) for point, layer in enumerate(structure)])


def is_layer(kind, layer, point):
    """Whether something is a layer at the point."""
    if not isinstance(layer, tuple) or len(layer) != len(kind.relations):
        return False
    return all([gives_values(relation, numbers, point) for relation, numbers in zip(kind.relations, layer)])


def gives_values(relation, numbers, point):
    """Whether something is a tuple with a value of the relation for each place at the point."""
    if not isinstance(numbers, tuple) or len(numbers) != len(places(relation, point)):
        return False
    return all([isinstance(number, int) and 0 <= number < relation[2] for number in numbers])


def value(kind, structure, name, points):
    """The value of the structure for the relation of that name and the points."""
    names = [each[0] for each in kind.relations]
    index = names.index(name)
    relation = kind.relations[index]
    place = tuple(sorted(points)) if relation[3] else points
    point = max(points)
    return structure[point][index][places(relation, point).index(place)]


def all_values(kind, structure):
    """A dict of all values, with keys (name, points) for all orders that the points may have."""
    known = {}
    for point, layer in enumerate(structure):
        for relation, numbers in zip(kind.relations, layer):
            for place, number in zip(places(relation, point), numbers):
                for points in orders_of(relation, place):
                    known[(relation[0], points)] = number
    return known


def orders_of(relation, place):
    """The tuples of points that share the value at the place."""
    if relation[3]:
        return list(permutations(list(place)))
    return [place]


def part(kind, structure, points):
    """The part of the structure on a list of different points."""
    known = all_values(kind, structure)
    return tuple([layer_on(kind, known, points, last) for last in range(len(points))])


def layer_on(kind, known, points, last):
    """The layer at point last of the part on the points."""
    layer = []
    for relation in kind.relations:
        chosen = [tuple([points[index] for index in place]) for place in places(relation, last)]
        layer.append(tuple([known[(relation[0], place)] for place in chosen]))
    return tuple(layer)


def holds(kind, structure, sentence):
    """Whether the sentence holds in the structure."""
    return holds_among(all_values(kind, structure), len(structure), sentence)


def holds_among(known, size, sentence):
    """Whether the sentence holds for so many points with the known values."""
    for choice in permutations(range(size), int(sentence[0])):
        if condition_of(sentence[1], choice, known, {}) is False:
            return False
    return True


def is_of_kind(kind, structure):
    """Whether the structure has the shape and all sentences hold in it."""
    if not has_shape(kind, structure):
        return False
    known = all_values(kind, structure)
    for sentence in kind.sentences:
        if not holds_among(known, len(structure), sentence):
            return False
    return True


def count_layers(kind, point):
    """The number of layers at the point."""
    count = 1
    for values in values_at(kind, point):
        count = count * values
    return count


def layers(kind, point):
    """The ascending list of the layers at the point."""
    refuse_too_many(kind, point)
    return layers_with(kind, point, [])


def extensions(kind, structure):
    """The ascending list of the layers with which the structure is again of the kind."""
    point = len(structure)
    refuse_too_many(kind, point)
    conditions = conditions_at(kind, structure, point)
    if False in conditions:
        return []
    return layers_with(kind, point, [condition for condition in conditions if condition is not True])


def refuse_too_many(kind, point):
    """Raise TooManyLayers if there are too many layers at the point."""
    count = count_layers(kind, point)
    if count > MOST_LAYERS:
        raise TooManyLayers(count)


def values_at(kind, point):
    """The number of values for each slot of a layer: for the places of each relation, in order."""
    return [relation[2] for relation in kind.relations for _ in places(relation, point)]


def slots_at(kind, point):
    """A dict of the slots of a layer, with keys as in the dict of all values."""
    slots = {}
    slot = 0
    for relation in kind.relations:
        for place in places(relation, point):
            for points in orders_of(relation, place):
                slots[(relation[0], points)] = slot
            slot += 1
    return slots


def conditions_at(kind, structure, point):
    """What the sentences require of a layer behind the structure.

    Choices without the new point need no look, since the structure is of the kind.
    """
    known = all_values(kind, structure)
    slots = slots_at(kind, point)
    conditions = []
    for sentence in kind.sentences:
        for choice in permutations(range(point + 1), int(sentence[0])):
            if point in choice:
                conditions.append(condition_of(sentence[1], choice, known, slots))
    return conditions


def layers_with(kind, point, conditions):
    """The ascending list of the layers at the point that meet the undecided conditions."""
    sizes = values_at(kind, point)
    due = [[] for _ in sizes]
    for condition in conditions:
        due[last_slot(condition)].append(condition)
    rows = [()]
    for slot, values in enumerate(sizes):
        rows = [row + (number,) for row in rows for number in range(values)]
        # A condition is put as soon as its slots are filled, so that few rows grow in vain.
        for condition in due[slot]:
            rows = [row for row in rows if is_met(condition, row)]
    widths = [len(places(relation, point)) for relation in kind.relations]
    return [cut(row, widths) for row in rows]


def cut(row, widths):
    """The layer whose values stand in the row, with parts of these widths."""
    layer = []
    start = 0
    for width in widths:
        layer.append(row[start:start + width])
        start += width
    return tuple(layer)
