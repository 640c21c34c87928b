"""Papers: censuses with symmetries and steps."""

from oneofeach.drafts import drafts


class Item:
    """A listed structure with a chain of symmetries and the steps to the next size."""

    def __init__(self, structure, chain, steps):
        self.structure = structure
        self.chain = [list(renamings) for renamings in chain]
        self.steps = list(steps)


class Paper:
    """The lists of items, one for each size from 0 on."""

    def __init__(self, levels):
        self.levels = [list(level) for level in levels]


def write_up(kind, size):
    """The paper of the kind up to the size."""
    levels = drafts(kind, size)
    return Paper([[Item(structure, lists, steps) for structure, lists, steps in level] for level in levels])
