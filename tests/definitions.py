"""What DOC.md says, word by word and without haste, for the tests to compare with."""

from functools import lru_cache
from itertools import permutations, product

from oneofeach.kinds import Kind


def listed_places(relation, point):
    """Point 2.1, by going through all tuples of points."""
    return list(kept_places(relation[1], relation[3], point))


@lru_cache(maxsize=None)
def kept_places(arity, symmetric, point):
    """The same, kept for the next time."""
    found = []
    for place in product(range(point + 1), repeat=arity):
        if len(set(place)) == arity and point in place:
            if not symmetric or list(place) == sorted(place):
                found.append(place)
    return tuple(sorted(found))


def listed_values(kind, structure):
    """Point 2.3: one dict for each relation, from all orders of the points to the value."""
    tables = {}
    for index, relation in enumerate(kind.relations):
        table = {}
        for point, layer in enumerate(structure):
            for place, number in zip(listed_places(relation, point), layer[index]):
                orders = permutations(place) if relation[3] else [place]
                for points in orders:
                    table[points] = number
        tables[relation[0]] = table
    return tables


def with_shape(kind, structure):
    """Point 2.2."""
    for point, layer in enumerate(structure):
        if type(layer) is not tuple or len(layer) != len(kind.relations):
            return False
        for relation, numbers in zip(kind.relations, layer):
            if type(numbers) is not tuple or len(numbers) != len(listed_places(relation, point)):
                return False
            if not all(type(number) is int and number in range(relation[2]) for number in numbers):
                return False
    return True


def truth(formula, tables, choice):
    """Point 1.2."""
    head = formula[0]
    if head == "is":
        return tables[formula[1]][tuple(choice[variable] for variable in formula[2])] == formula[3]
    parts = [truth(part, tables, choice) for part in formula[1:]]
    return {
        "true": lambda: True,
        "false": lambda: False,
        "not": lambda: not parts[0],
        "and": lambda: parts[0] and parts[1],
        "or": lambda: parts[0] or parts[1],
        "implies": lambda: parts[1] or not parts[0],
        "same": lambda: parts[0] == parts[1],
    }[head]()


def satisfies(kind, structure, sentence):
    """Point 1.3."""
    count, formula = sentence
    tables = listed_values(kind, structure)
    return all(truth(formula, tables, choice) for choice in permutations(range(len(structure)), count))


def belongs(kind, structure):
    """Point 2.4."""
    return with_shape(kind, structure) and all(satisfies(kind, structure, each) for each in kind.sentences)


def listed_layers(kind, point):
    """Point 2.5."""
    parts = []
    for relation in kind.relations:
        parts.append(list(product(range(relation[2]), repeat=len(listed_places(relation, point)))))
    return sorted(product(*parts))


def structure_of(kind, size, number_at):
    """The structure with so many points whose values number_at(name, points) tells."""
    layers = []
    for point in range(size):
        layer = []
        for relation in kind.relations:
            places = listed_places(relation, point)
            layer.append(tuple(number_at(relation[0], place) for place in places))
        layers.append(tuple(layer))
    return tuple(layers)


def part_on(kind, structure, points):
    """Point 2.4, the part on a list of points."""
    tables = listed_values(kind, structure)
    return structure_of(kind, len(points), lambda name, place: tables[name][tuple(points[i] for i in place)])


def renamed_by(kind, structure, renaming):
    """Point 3.1: the value at the new names is the value at the points."""
    moved = {}
    for name, table in listed_values(kind, structure).items():
        for points, number in table.items():
            moved[name, tuple(renaming[point] for point in points)] = number
    return structure_of(kind, len(structure), lambda name, place: moved[name, place])


def every_structure(kind, size):
    """All structures of the shape, ascending."""
    found = [()]
    for point in range(size):
        found = [structure + (layer,) for structure in found for layer in listed_layers(kind, point)]
    return found


def some_structure(kind, size, chance):
    """A structure of the shape, by a random.Random with a fixed seed."""
    limits = {relation[0]: relation[2] for relation in kind.relations}
    return structure_of(kind, size, lambda name, place: chance.randrange(limits[name]))


def some_formula(relations, count, depth, chance):
    """A formula over variables below count, by a random.Random with a fixed seed."""
    usable = [relation for relation in relations if relation[1] <= count]
    if depth == 1 or chance.randrange(5) == 0:
        if not usable or chance.randrange(8) == 0:
            return (chance.choice(["true", "false"]),)
        name, arity, values, symmetric = chance.choice(usable)
        return ("is", name, tuple(chance.sample(range(count), arity)), chance.randrange(values + 1))
    head = chance.choice(["not", "and", "or", "implies", "same"])
    parts = [some_formula(relations, count, depth - 1, chance) for _ in range(1 if head == "not" else 2)]
    return (head, *parts)


def says(name, variables, number):
    """The formula that the relation has the value."""
    return ("is", name, variables, number)


def both(first, *others):
    """The formulas joined by `and`, to the left."""
    for other in others:
        first = ("and", first, other)
    return first


EDGE = ("edge", 2, 2, True)
ARC = ("arc", 2, 2, False)
BELOW = ("below", 2, 2, False)
ALIKE = ("alike", 2, 2, True)
BLOCK = ("block", 3, 2, True)


def ready_kinds():
    """The kinds of point 1.10, by their names."""
    below = [says("below", pair, 1) for pair in [(0, 1), (1, 2), (0, 2), (1, 0)]]
    alike = [says("alike", pair, 1) for pair in [(0, 1), (1, 2), (0, 2)]]
    edges = [says("edge", pair, 1) for pair in [(0, 1), (1, 2), (0, 2)]]
    return {
        "graphs": Kind([EDGE], []),
        "digraphs": Kind([ARC], []),
        "tournaments": Kind([ARC], [(2, ("same", says("arc", (0, 1), 1), says("arc", (1, 0), 0)))]),
        "orders": Kind([BELOW], [
            (2, ("not", both(below[0], below[3]))),
            (3, ("implies", both(below[0], below[1]), below[2])),
        ]),
        "equivalences": Kind([ALIKE], [(3, ("implies", both(alike[0], alike[1]), alike[2]))]),
        "trianglefree": Kind([EDGE], [(3, ("not", both(*edges)))]),
        "triples": Kind([BLOCK], []),
    }


def mixed_relations():
    """One relation of each arity, symmetric and not, with various numbers of values."""
    return [
        ("colour", 1, 3, False),
        ("mark", 1, 2, True),
        ("arc", 2, 2, False),
        ("edge", 2, 3, True),
        ("turn", 3, 2, False),
        ("block", 3, 4, True),
    ]


def sample_kinds():
    """The ready kinds, kinds with several relations, and kinds at the edges, by their names."""
    kinds = ready_kinds()
    kinds["mixed"] = Kind(mixed_relations(), [])
    kinds["bare"] = Kind([], [])
    kinds["bare, at most two points"] = Kind([], [(3, ("false",))])
    kinds["nothing but no points"] = Kind([EDGE], [(1, ("false",))])
    kinds["one value"] = Kind([("only", 2, 1, False), ("lone", 1, 1, True)], [])
    kinds["coloured graphs"] = Kind([("colour", 1, 2, False), EDGE], [
        (2, ("implies", says("edge", (0, 1), 1), ("not", ("same", says("colour", (0,), 1), says("colour", (1,), 1)))))
    ])
    kinds["turns"] = Kind([("turn", 3, 2, False)], [
        (3, ("same", says("turn", (0, 1, 2), 1), says("turn", (1, 2, 0), 1))),
        (3, ("same", says("turn", (0, 1, 2), 1), says("turn", (1, 0, 2), 0))),
    ])
    return kinds
