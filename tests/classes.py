"""What DOC.md says of classes, symmetries, cells and chains, word by word, for the tests to compare with."""

from itertools import permutations, product
from math import factorial

from definitions import listed_places, renamed_by, says
from oneofeach.kinds import Kind


def all_renamed(kind, structure):
    """Point 3.1: a dict from all renamings, ascending, to the renamed structures."""
    return {names: renamed_by(kind, structure, names) for names in permutations(range(len(structure)))}


def least_form(kind, structure):
    """Points 4.1 and 4.2: the least structure and the smallest renaming that leads to it."""
    found = all_renamed(kind, structure)
    best = min(found.values())
    return best, min(names for names in found if found[names] == best)


def all_symmetries(kind, structure):
    """Point 3.2: the ascending list."""
    return [names for names, found in all_renamed(kind, structure).items() if found == structure]


def is_chain(kind, structure, lists):
    """Point 4.3."""
    found = all_symmetries(kind, structure)
    if type(lists) is not list or len(lists) != len(structure):
        return False
    for point, row in enumerate(lists):
        keeping = [names for names in found if names[:point] == tuple(range(point))]
        if type(row) is not list or not all(names in keeping for names in row):
            return False
        if [names[point] for names in row] != sorted(set(names[point] for names in keeping)):
            return False
    return True


def other_chain(kind, structure, chance):
    """ANY chain of point 4.3, by a random.Random with a fixed seed."""
    found = all_symmetries(kind, structure)
    lists = []
    for point in range(len(structure)):
        keeping = [names for names in found if names[:point] == tuple(range(point))]
        row = []
        for name in sorted(set(names[point] for names in keeping)):
            row.append(chance.choice([names for names in keeping if names[point] == name]))
        lists.append(row)
    return lists


def colours_by_rounds(kind, structure):
    """Point 11.1: the colours behind each round, the ones at first included."""
    rounds = [[0] * len(structure)]
    while len(rounds) < 2 or len(set(rounds[-1])) > len(set(rounds[-2])):
        signatures = [signature_of(kind, structure, rounds[-1], point) for point in range(len(structure))]
        different = sorted(set(signatures))
        rounds.append([different.index(each) for each in signatures])
    return rounds


def signature_of(kind, structure, colours, point):
    """Point 11.1: the signature of a point in a round."""
    rows = []
    for number, relation in enumerate(kind.relations):
        for last, layer in enumerate(structure):
            for place, given in zip(listed_places(relation, last), layer[number]):
                if point not in place:
                    continue
                if relation[3]:
                    others = tuple(sorted(colours[other] for other in place if other != point))
                    rows.append((number, -1, given, others))
                else:
                    shown = tuple(colours[other] for other in place)
                    rows.append((number, place.index(point), given, shown))
    return colours[point], tuple(sorted(rows))


def summed_count(relations, size):
    """Point 8.2, by the sum over all renamings."""
    total = 0
    for names in permutations(range(size)):
        kept = 1
        for relation in relations:
            kept *= relation[2] ** count_cycles(relation, names)
        total += kept
    assert total % factorial(size) == 0
    return total // factorial(size)


def count_cycles(relation, names):
    """Point 8.2: the number of cycles in which a renaming moves the places of a relation."""
    left = set()
    for place in product(range(len(names)), repeat=relation[1]):
        if len(set(place)) == relation[1]:
            left.add(frozenset(place) if relation[3] else place)
    count = 0
    while left:
        place = start = left.pop()
        count += 1
        while True:
            moved = [names[point] for point in place]
            place = frozenset(moved) if relation[3] else tuple(moved)
            if place == start:
                break
            left.remove(place)
    return count


def some_kind(count, chance):
    """A kind with so many relations, by a random.Random with a fixed seed; sometimes with a sentence."""
    relations = []
    for name in ["one", "two", "three"][:count]:
        relations.append((name, chance.randrange(1, 4), chance.randrange(1, 4), chance.randrange(2) == 1))
    sentences = []
    if relations and chance.randrange(3) == 0:
        name, arity, values, symmetric = relations[-1]
        sentences.append((arity, says(name, tuple(range(arity)), values - 1)))
    return Kind(relations, sentences)


def some_kinds(chance):
    """Kinds with none to three relations, each arity, symmetric or not, one to three values."""
    kinds = [Kind([], []), Kind([], [(2, ("false",))])]
    for arity, values, symmetric in product([1, 2, 3], [1, 2, 3], [False, True]):
        kinds.append(Kind([("only", arity, values, symmetric)], []))
    for count in [2, 2, 2, 2, 2, 2, 2, 2, 3, 3, 3, 3, 3, 3, 3, 3]:
        kinds.append(some_kind(count, chance))
    return kinds
