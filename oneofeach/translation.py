"""Translating structures of one kind to structures of another kind."""

from oneofeach.errors import DuplicateName, UnknownName, WrongArity
from oneofeach.formulas import condition_of
from oneofeach.kinds import check_atoms
from oneofeach.places import places
from oneofeach.structures import all_values, orders_of
from oneofeach.walks import find


class Translation:
    """A source kind, a target kind, and the formulas over the source for the relations of the target."""

    def __init__(self, source, target, rules):
        check_rules(source, target, rules)
        self.source = source
        self.target = target
        self.rules = [(name, list(formulas)) for name, formulas in rules]


def check_rules(source, target, rules):
    """Raise the first error of the rules."""
    values = {relation[0]: relation[2] for relation in target.relations}
    seen = set()
    for name, formulas in rules:
        if name in seen:
            raise DuplicateName(name)
        seen.add(name)
        if name not in values:
            raise UnknownName(name)
        for formula in formulas:
            check_atoms(source.relations, formula)
        if len(formulas) != values[name] - 1:
            raise WrongArity(name)
    for relation in target.relations:
        if relation[0] not in seen:
            raise UnknownName(relation[0])


def translated(translation, structure):
    """The structure of the shape of the target."""
    known = all_values(translation.source, structure)
    formulas = {rule[0]: rule[1] for rule in translation.rules}
    layers = []
    for point in range(len(structure)):
        layer = []
        for relation in translation.target.relations:
            chosen = formulas[relation[0]]
            layer.append(tuple([value_at(relation, place, chosen, known) for place in places(relation, point)]))
        layers.append(tuple(layer))
    return tuple(layers)


def value_at(relation, place, formulas, known):
    """The value of the relation at the place: the first one whose formula is true, or 0."""
    orders = orders_of(relation, place)
    for before, formula in enumerate(formulas):
        if any([condition_of(formula, points, known, {}) is True for points in orders]):
            return before + 1
    return 0


def class_map(translation, paper, target_paper, size):
    """For each listed structure of the size the number of its translation in the other paper, or None."""
    numbers = []
    for item in paper.levels[size]:
        found = find(translation.target, target_paper, translated(translation, item.structure))
        numbers.append(None if found is None else found[0])
    return numbers
