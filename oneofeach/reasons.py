"""Why papers are refused."""

from oneofeach.checker import (
    has_chain, has_start, has_structure, layers_of, leads_on, refuse_too_many_steps, total_weight, weight,
)
from oneofeach.structures import extensions


def why_refused(kind, paper):
    """The first reason to refuse the paper, as a tuple (size, number, reason), or None."""
    refuse_too_many_steps(kind, paper)
    if not has_start(paper):
        return (0, 0, "start")
    found = fault_of_items(kind, paper.levels)
    if found is None:
        found = fault_of_steps(kind, paper.levels)
    if found is None:
        found = fault_at_the_end(paper.levels)
    return found


def fault_of_items(kind, levels):
    """The first reason that an item gives by itself, or None."""
    for size, level in enumerate(levels):
        for number, item in enumerate(level):
            reason = fault_of_item(kind, item, size)
            if reason is not None:
                return (size, number, reason)
    return None


def fault_of_item(kind, item, size):
    """What is wrong with the structure or the chain of an item, or None."""
    if not has_structure(kind, item, size):
        return "structure"
    if not has_chain(kind, item):
        return "chain"
    return "weight" if weight(item) is None else None


def fault_of_steps(kind, levels):
    """The first reason that lists and the lists behind them give, or None."""
    for size in range(1, len(levels)):
        total = 0
        for number, item in enumerate(levels[size - 1]):
            if layers_of(item) != extensions(kind, item.structure):
                return (size - 1, number, "layers")
            if not leads_on(kind, item, levels[size]):
                return (size - 1, number, "step")
            total = total + weight(item) * len(item.steps)
        if total != total_weight(levels[size]):
            return (size, 0, "sum")
    return None


def fault_at_the_end(levels):
    """The first item of the last list that has steps gives a reason, otherwise None."""
    for number, item in enumerate(levels[-1]):
        if len(item.steps) > 0:
            return (len(levels) - 1, number, "end")
    return None
