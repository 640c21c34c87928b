"""Structures of a kind: shape, values, parts, sentences and layers."""

from itertools import permutations

from oneofeach.errors import TooManyLayers
from oneofeach.formulas import condition_of, is_met, last_slot
from oneofeach.places import places

MOST_LAYERS = 4096


def has_shape(kind, structure):
    """Whether the structure is a tuple of layers of the kind's relations with their values."""
    return all([is_layer(kind, layer, point) for point, layer in enumerate(structure)])


def is_layer(kind, layer, point):
    """Whether something is a layer at the point."""
    if not isinstance(layer, tuple) or len(layer) != len(kind.relations):
        return False
    return all([gives_values(relation, numbers, point) for relation, numbers in zip(kind.relations, layer)])


def gives_values(relation, numbers, point):
    """Whether something is a tuple with a value of the relation for each place at the point."""
    if not isinstance(numbers, tuple) or len(numbers) != len(places(relation, point)):
        return False
    return all([isinstance(number, int) and 0 <= number < relation[2] for number in numbers])


def value(kind, structure, name, points):
    """The value of the structure for the relation of that name and the points."""
    names = [each[0] for each in kind.relations]
    index = names.index(name)
    relation = kind.relations[index]
    place = tuple(sorted(points)) if relation[3] else points
    point = max(points)
    return structure[point][index][places(relation, point).index(place)]


def tables_of(kind, structure):
    """For each relation a dict of its values, with all orders that the points may have as keys."""
    tables = []
    for index, relation in enumerate(kind.relations):
        table = {}
        for point, layer in enumerate(structure):
            for place, number in zip(places(relation, point), layer[index]):
                for points in orders_of(relation, place):
                    table[points] = number
        tables.append(table)
    return tables


def all_values(kind, structure):
    """A dict of all values, with keys (name, points) for all orders that the points may have."""
    known = {}
    for relation, table in zip(kind.relations, tables_of(kind, structure)):
        for points, number in table.items():
            known[(relation[0], points)] = number
    return known


def orders_of(relation, place):
    """The tuples of points that share the value at the place."""
    if relation[3]:
        return list(permutations(list(place)))
    return [place]


def part(kind, structure, points):
    """The part of the structure on a list of different points."""
    return part_in(tables_of(kind, structure), places_below(kind, len(points)), points)


def places_below(kind, size):
    """For each point below the size, the list of the places of each relation."""
    return [[places(relation, point) for relation in kind.relations] for point in range(size)]


def part_in(tables, listed, points):
    """The structure with the listed places whose point j is the j-th of the points."""
    return tuple([layer_in(tables, at, points) for at in listed])


def layer_in(tables, at, points):
    """The layer with the listed places of one point, where point j is the j-th of the points."""
    return tuple([numbers_in(table, listed, points) for table, listed in zip(tables, at)])


def numbers_in(table, listed, points):
    """The values of the table at the listed places, where point j is the j-th of the points."""
    arity = len(listed[0]) if listed else 0
    # One row for each arity: this is where most of the time of a census goes.
    if arity == 1:
        return tuple([table[(points[place[0]],)] for place in listed])
    if arity == 2:
        return tuple([table[(points[first], points[second])] for first, second in listed])
    return tuple([table[(points[first], points[second], points[third])] for first, second, third in listed])


def holds(kind, structure, sentence):
    """Whether the sentence holds in the structure."""
    return holds_among(all_values(kind, structure), len(structure), sentence)


def holds_among(known, size, sentence):
    """Whether the sentence holds for so many points with the known values."""
    for choice in permutations(range(size), int(sentence[0])):
        if condition_of(sentence[1], choice, known, {}) is False:
            return False
    return True


def is_of_kind(kind, structure):
    """Whether the structure has the shape and all sentences hold in it."""
    if not has_shape(kind, structure):
        return False
    known = all_values(kind, structure)
    for sentence in kind.sentences:
        if not holds_among(known, len(structure), sentence):
            return False
    return True


def count_layers(kind, point):
    """The number of layers at the point."""
    count = 1
    for values in values_at(kind, point):
        count = count * values
    return count


def layers(kind, point):
    """The ascending list of the layers at the point."""
    refuse_too_many(kind, point)
    return layers_with(kind, point, [])


def extensions(kind, structure):
    """The ascending list of the layers with which the structure is again of the kind."""
    point = len(structure)
    refuse_too_many(kind, point)
    conditions = conditions_at(kind, structure, point)
    if False in conditions:
        return []
    return layers_with(kind, point, [condition for condition in conditions if condition is not True])


def refuse_too_many(kind, point):
    """Raise TooManyLayers if there are too many layers at the point."""
    count = count_layers(kind, point)
    if count > MOST_LAYERS:
        raise TooManyLayers(count)


def refuse_too_many_below(kind, size):
    """Raise TooManyLayers for the first point below the size that has too many layers."""
    for point in range(size):
        refuse_too_many(kind, point)


def values_at(kind, point):
    """The number of values for each slot of a layer: for the places of each relation, in order."""
    return [relation[2] for relation in kind.relations for _ in places(relation, point)]


def slots_at(kind, point):
    """A dict of the slots of a layer, with keys as in the dict of all values."""
    slots = {}
    slot = 0
    for relation in kind.relations:
        for place in places(relation, point):
            for points in orders_of(relation, place):
                slots[(relation[0], points)] = slot
            slot += 1
    return slots


def conditions_at(kind, structure, point):
    """What the sentences require of a layer behind the structure.

    Choices without the new point need no look, since the structure is of the kind.
    """
    known = all_values(kind, structure)
    slots = slots_at(kind, point)
    conditions = []
    for sentence in kind.sentences:
        for choice in permutations(range(point + 1), int(sentence[0])):
            if point in choice:
                conditions.append(condition_of(sentence[1], choice, known, slots))
    return conditions


def layers_with(kind, point, conditions):
    """The ascending list of the layers at the point that meet the undecided conditions."""
    sizes = values_at(kind, point)
    due = [[] for _ in sizes]
    for condition in conditions:
        due[last_slot(condition)].append(condition)
    rows = [()]
    for slot, values in enumerate(sizes):
        rows = [row + (number,) for row in rows for number in range(values)]
        # A condition is put as soon as its slots are filled, so that few rows grow in vain.
        for condition in due[slot]:
            rows = [row for row in rows if is_met(condition, row)]
    widths = [len(places(relation, point)) for relation in kind.relations]
    return [cut(row, widths) for row in rows]


def cut(row, widths):
    """The layer whose values stand in the row, with parts of these widths."""
    layer = []
    start = 0
    for width in widths:
        layer.append(row[start:start + width])
        start += width
    return tuple(layer)
