"""Short papers: steps for one layer of each orbit only."""

from oneofeach.checker import is_sound, layers_of, leads_on, refuse_too_many_steps, total_weight, weight
from oneofeach.moves import all_steps, least_layers, moves_of, orbit_of_layer
from oneofeach.papers import Item, Paper
from oneofeach.renamings import followed, inverted
from oneofeach.structures import extensions, is_of_kind, layer_in, places_below, tables_of


def shorten(kind, paper):
    """The short paper that an accepted paper has in it."""
    return Paper([[shortened(kind, item) for item in level] for level in paper.levels])


def shortened(kind, item):
    """The item with the steps for the least layers of the orbits alone."""
    chosen = set(least_layers(kind, item.chain, len(item.structure), layers_of(item)))
    return Item(item.structure, item.chain, [step for step in item.steps if step[0] in chosen])


def lengthen(kind, paper):
    """The paper that follows from an accepted short paper."""
    return Paper([[lengthened(kind, item) for item in level] for level in paper.levels])


def lengthened(kind, item):
    """The item with steps for all layers of the orbits."""
    return Item(item.structure, item.chain, all_steps(kind, item.chain, len(item.structure), item.steps))


def accepts_short(kind, paper):
    """Whether the paper is accepted for the kind as a short paper."""
    refuse_too_many_steps(kind, paper)
    if not is_sound(kind, paper):
        return False
    for level, after in zip(paper.levels, paper.levels[1:]):
        if not is_followed_shortly(kind, level, after):
            return False
    return True


def is_followed_shortly(kind, level, after):
    """Whether the steps of a list are right and the next list has neither too many items nor too few."""
    total = 0
    for item in level:
        found = extensions(kind, item.structure)
        if layers_of(item) != least_layers(kind, item.chain, len(item.structure), found):
            return False
        if not leads_on(kind, item, after):
            return False
        total = total + weight(item) * len(found)
    return total == total_weight(after)


def find_short(kind, paper, structure):
    """The number of the listed structure with a renaming to it, or None if it is not of the kind."""
    if not is_of_kind(kind, structure):
        return None
    tables = tables_of(kind, structure)
    number = 0
    renaming = ()
    for point, at in enumerate(places_below(kind, len(structure))):
        longer = renaming + (point,)
        layer = layer_in(tables, at, inverted(longer))
        step, names = step_through(kind, paper.levels[point][number], layer)
        number = step[1]
        renaming = followed(followed(longer, names), step[2])
    return (number, renaming)


def step_through(kind, item, layer):
    """The step for the orbit of the layer, and a renaming that brings the layer to that of the step."""
    point = len(item.structure)
    reached = orbit_of_layer(moves_of(kind, item.chain, point), layer, point)
    found = [step for step in item.steps if step[0] in reached][0]
    return (found, reached[found[0]])
