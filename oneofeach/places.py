"""The places of a relation at a point."""

from itertools import combinations, permutations


def places(relation, point):
    """The tuples of points of the relation that a new point brings, in ascending order."""
    if relation[3]:
        others = int(relation[1] - 1)
        return [chosen + (point,) for chosen in combinations(range(point), others)]
    arity = int(relation[1])
    return [place for place in permutations(range(point + 1), arity) if point in place]
