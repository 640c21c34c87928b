"""Changed papers, for the tests of those who check papers."""

from oneofeach.papers import Item, Paper

# What stands in the place of structures, layers and renamings, whatever it is.
ODD_TUPLES = [
    (), (0,), (1,), (5, 5), (-1,), ((),), ((), ()), ((0,),), ((1,),), (((),),), (((0,),),), (((), ()),), ((), 3), (3, ()),
    (((),), 1), (((),), ((2,),)), (((),), ((-1,),)), (((),), ((0, 0),)), (((),), (0,)), ((((),),),), (((((),),),),),
    (((),), ((0,),), ((0,),)), (((),), ((0,),), ((0, (0,)),)),
]
ODD_RENAMINGS = [
    (), (0,), (1,), (-1,), (0, 0), (1, 2), (0, 1), (1, 0), (0, 1, 2), (2, 1, 0), (0, 0, 0), (0, 1, 3), (-1, 0, 1),
    (0, 1, 2, 3), (3, 2, 1, 0), (1, 1, 1, 1), (0, 1, 2, 10 ** 8), (0, 1, 2, 3, 4),
]
ODD_NUMBERS = [-1, -2, 0, 1, 2, 3, 10 ** 8, -10 ** 8]


def with_item(paper, size, number, structure=None, chain=None, steps=None):
    """The paper with other fields of one item."""
    levels = [list(level) for level in paper.levels]
    item = levels[size][number]
    levels[size][number] = Item(
        item.structure if structure is None else structure,
        item.chain if chain is None else chain,
        item.steps if steps is None else steps,
    )
    return Paper(levels)


def with_level(paper, size, level):
    """The paper with another list of items of a size."""
    return Paper(paper.levels[:size] + [level] + paper.levels[size + 1:])


def with_step(paper, size, number, at, layer=None, target=None, names=None):
    """The paper with another layer, number or renaming of one step."""
    steps = list(paper.levels[size][number].steps)
    step = steps[at]
    steps[at] = (
        step[0] if layer is None else layer, step[1] if target is None else target, step[2] if names is None else names,
    )
    return with_item(paper, size, number, steps=steps)


def broken(paper, chance):
    """The paper with some change, by a random.Random with a fixed seed; the change may do no harm."""
    kinds = [change_levels, change_structure, change_chain, change_chain, change_steps, change_steps, change_step]
    change = chance.choice(kinds)
    sizes = [size for size, level in enumerate(paper.levels) if level]
    if change is change_levels or not sizes:
        return change_levels(paper, chance)
    size = chance.choice(sizes)
    return change(paper, size, chance.randrange(len(paper.levels[size])), chance)


def edited(rows, chance, others):
    """A list with one of its items left out, doubled, moved or changed for another one."""
    rows = list(rows)
    at = chance.randrange(len(rows) + 1)
    way = chance.randrange(5)
    if way == 0:
        return rows[:at] + rows[at + 1:]
    if way == 1:
        return rows[:at] + rows[at:at + 1] + rows[at:]
    if way == 2:
        chance.shuffle(rows)
        return rows
    return rows[:at] + [chance.choice(others)] + rows[at + (way == 3):] if others else rows


def change_levels(paper, chance):
    """Items, or a whole list, left out, doubled, moved or put elsewhere."""
    items = [item for level in paper.levels for item in level]
    if chance.randrange(4) == 0:
        return Paper(edited(paper.levels, chance, [[], items[:1]]) or [[]])
    size = chance.randrange(len(paper.levels))
    return with_level(paper, size, edited(paper.levels[size], chance, items))


def change_structure(paper, size, number, chance):
    """Another structure of an item."""
    found = [item.structure for level in paper.levels for item in level]
    return with_item(paper, size, number, structure=chance.choice(found + [chance.choice(ODD_TUPLES)]))


def change_chain(paper, size, number, chance):
    """Another chain of an item."""
    lists = [list(row) for row in paper.levels[size][number].chain]
    if not lists or chance.randrange(4) == 0:
        return with_item(paper, size, number, chain=edited(lists, chance, [[], [tuple(range(size))]]))
    at = chance.randrange(len(lists))
    fitting = [names for names in ODD_RENAMINGS if len(names) == size]
    lists[at] = edited(lists[at], chance, fitting + [chance.choice(ODD_RENAMINGS)])
    return with_item(paper, size, number, chain=lists)


def change_steps(paper, size, number, chance):
    """Other steps of an item."""
    steps = [step for level in paper.levels for item in level for step in item.steps]
    return with_item(paper, size, number, steps=edited(paper.levels[size][number].steps, chance, steps))


def change_step(paper, size, number, chance):
    """Another layer, number or renaming of a step."""
    steps = paper.levels[size][number].steps
    if not steps:
        return change_steps(paper, size, number, chance)
    at = chance.randrange(len(steps))
    way = chance.randrange(3)
    if way == 0:
        layers = [step[0] for level in paper.levels for item in level for step in item.steps]
        return with_step(paper, size, number, at, layer=chance.choice(layers + ODD_TUPLES))
    if way == 1:
        return with_step(paper, size, number, at, target=chance.choice(ODD_NUMBERS))
    fitting = [names for names in ODD_RENAMINGS if len(names) == size + 1]
    return with_step(paper, size, number, at, names=chance.choice(fitting + [chance.choice(ODD_RENAMINGS)]))
