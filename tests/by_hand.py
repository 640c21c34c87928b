"""What DOC.md says of censuses and papers, word by word, for the tests to compare with."""

from functools import lru_cache
from itertools import combinations, product
from math import factorial, prod

from classes import all_renamed, other_chain
from definitions import (
    belongs, every_structure, listed_layers, listed_places, part_on, renamed_by, sample_kinds, says,
)
from oneofeach.kinds import Kind
from oneofeach.papers import Item, Paper


def every_one_of_kind(kind, size):
    """All structures of the kind with so many points, ascending."""
    return [structure for structure in every_structure(kind, size) if belongs(kind, structure)]


def listed_classes(kind, size):
    """Point 3.2: the classes of structures of the kind, ascending, in the order of their least structures."""
    seen = set()
    found = []
    for structure in every_one_of_kind(kind, size):
        if structure not in seen:
            found.append(sorted(set(all_renamed(kind, structure).values())))
            seen.update(found[-1])
    return found


def listed_census(kind, size):
    """Point 5.1."""
    return [[members[0] for members in listed_classes(kind, number)] for number in range(size + 1)]


def listed_extensions(kind, structure):
    """Point 2.5."""
    layers = listed_layers(kind, len(structure))
    return [layer for layer in layers if belongs(kind, structure + (layer,))]


def small_kinds():
    """Pairs of a kind and a size up to which there are few structures."""
    kinds = sample_kinds()
    few = [
        ("graphs", 4), ("digraphs", 3), ("tournaments", 4), ("orders", 3), ("equivalences", 4), ("trianglefree", 4),
        ("triples", 4), ("bare", 5), ("bare, at most two points", 4), ("nothing but no points", 3), ("one value", 4),
        ("coloured graphs", 3), ("turns", 3),
    ]
    found = [(kinds[name], size) for name, size in few]
    edge, mark = ("edge", 2, 2, True), ("mark", 1, 2, False)
    found.append((Kind([mark, ("colour", 1, 3, True)], []), 3))
    found.append((Kind([edge], [(4, ("not", ("and", says("edge", (0, 1), 1), says("edge", (2, 3), 1))))]), 4))
    found.append((Kind([edge], [(1, ("true",)), (3, ("same", says("edge", (0, 1), 1), says("edge", (1, 2), 0)))]), 4))
    found.append((Kind([mark], [(1, says("mark", (0,), 1)), (2, says("mark", (0,), 1))]), 4))
    return found


def paper_by_hand(kind, size, chance):
    """An accepted paper, as unlike the program's own ones as point 6.2 allows."""
    members = [listed_classes(kind, number) for number in range(size + 1)]
    for classes in members:
        chance.shuffle(classes)
    shown = [[chance.choice(each) for each in classes] for classes in members]
    levels = []
    for number in range(size + 1):
        level = []
        for structure in shown[number]:
            steps = []
            if number < size:
                for layer in listed_extensions(kind, structure):
                    steps.append(step_by_hand(kind, structure, layer, members[number + 1], shown[number + 1], chance))
            level.append(Item(structure, other_chain(kind, structure, chance), steps))
        levels.append(level)
    return Paper(levels)


def step_by_hand(kind, structure, layer, classes, shown, chance):
    """A step with ANY renaming that fits."""
    longer = structure + (layer,)
    number = [longer in each for each in classes].index(True)
    found = all_renamed(kind, longer)
    return (layer, number, chance.choice([names for names in found if found[names] == shown[number]]))


def is_accepted(kind, paper):
    """Point 6.2."""
    return reason_by_hand(kind, paper) is None


def is_accepted_short(kind, paper):
    """Point 17.1."""
    return reason_by_hand(kind, paper, short=True) is None


def reason_by_hand(kind, paper, short=False):
    """Point 18.1; for a short paper what is the same there, with the changes of point 17.1."""
    levels = paper.levels
    if len(levels[0]) != 1:
        return (0, 0, "start")
    for size, level in enumerate(levels):
        for number, item in enumerate(level):
            reason = reason_of_item(kind, item, size)
            if reason:
                return (size, number, reason)
    for size in range(1, len(levels)):
        for number, item in enumerate(levels[size - 1]):
            found = list(kept_extensions(kind, item.structure))
            if [step[0] for step in item.steps] != (least_by_hand(kind, item) if short else found):
                return (size - 1, number, "layers")
            if not all(fits(kind, item.structure, step, levels[size]) for step in item.steps):
                return (size - 1, number, "step")
        before = sum(weight_of(item) * len(kept_extensions(kind, item.structure)) for item in levels[size - 1])
        if sum(weight_of(item) for item in levels[size]) != before:
            return (size, 0, "sum")
    for number, item in enumerate(levels[-1]):
        if item.steps:
            return (len(levels) - 1, number, "end")
    return None


def too_many_layers(kind, paper):
    """The number of layers for which TooManyLayers is raised for a paper, or None."""
    for size, level in enumerate(paper.levels[:-1]):
        count = prod(relation[2] ** len(listed_places(relation, size)) for relation in kind.relations)
        if level and count > 4096:
            return count
    return None


@lru_cache(maxsize=None)
def kept_extensions(kind, structure):
    """The listed extensions, kept for the next time."""
    return tuple(listed_extensions(kind, structure))


def made_by(renamings, size):
    """All renamings of so many points that are made of these, done one after another."""
    found = {tuple(range(size))}
    while True:
        more = {tuple(names[point] for point in before) for before in found for names in renamings} - found
        if not more:
            return found
        found |= more


def least_by_hand(kind, item):
    """Point 17.1: the least layers of the orbits of the extensions, for the chain of the item."""
    size = len(item.structure)
    group = made_by([names for row in item.chain for names in row], size)
    found = []
    for layer in kept_extensions(kind, item.structure):
        longer = item.structure + (layer,)
        if min(renamed_by(kind, longer, names + (size,)) for names in group)[-1] == layer:
            found.append(layer)
    return found


def shortened_by_hand(kind, paper):
    """A short paper, of an accepted paper."""
    levels = []
    for level in paper.levels[:-1]:
        levels.append([])
        for item in level:
            least = least_by_hand(kind, item)
            levels[-1].append(Item(item.structure, item.chain, [step for step in item.steps if step[0] in least]))
    return Paper(levels + paper.levels[-1:])


def weight_of(item):
    """The weight of an item, as a whole number."""
    return factorial(len(item.structure)) // prod(len(row) for row in item.chain)


def reason_of_item(kind, item, size):
    """Conditions 1 and 2 of point 6.2: the word for what does not hold, or None."""
    if len(item.structure) != size or not belongs(kind, item.structure):
        return "structure"
    if len(item.chain) != size:
        return "chain"
    for point, row in enumerate(item.chain):
        kept = tuple(range(point))
        if not row or len(set(names[point:point + 1] for names in row)) != len(row):
            return "chain"
        for names in row:
            if sorted(names) != list(range(size)) or names[:point] != kept:
                return "chain"
            if renamed_by(kind, item.structure, names) != item.structure:
                return "chain"
    return "weight" if factorial(size) % prod(len(row) for row in item.chain) else None


def fits(kind, structure, step, following):
    """Condition 3 of point 6.2: whether the number and the renaming of a step are right."""
    layer, number, names = step
    if number not in range(len(following)) or sorted(names) != list(range(len(structure) + 1)):
        return False
    return renamed_by(kind, structure + (layer,), names) == following[number].structure


def parts_without_one(kind, structure):
    """The parts that leave out one point each, in the order of these points."""
    points = range(len(structure))
    return [part_on(kind, structure, [other for other in points if other != point]) for point in points]


def parts_of_size(kind, structure, size):
    """The parts on all ascending lists of so many points."""
    return [part_on(kind, structure, list(points)) for points in combinations(range(len(structure)), size)]


def in_one_class(kind, one, other):
    """Point 3.2."""
    return len(one) == len(other) and other in all_renamed(kind, one).values()


def number_in(kind, paper, structure):
    """Point 7.1: the index of the listed structure of the class."""
    level = paper.levels[len(structure)]
    return [in_one_class(kind, structure, item.structure) for item in level].index(True)


def keeps(kind, structure, names):
    """Point 15.3."""
    return renamed_by(kind, structure, names) == structure


def all_lists(items, length):
    """All lists of so many of the items."""
    return [list(chosen) for chosen in product(items, repeat=length)]
