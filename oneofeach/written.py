"""Papers as texts."""

from oneofeach.checker import accepts
from oneofeach.errors import InvalidPaper
from oneofeach.papers import Item, Paper

MOST_DIGITS = 9


def write_structure(structure):
    """The words of the layers."""
    return " ".join([write_layer(layer) for layer in structure])


def write_layer(layer):
    """The word of a layer."""
    return "/".join([write_part(numbers) for numbers in layer]) if layer else "."


def write_part(numbers):
    """The values of a relation in the word of a layer."""
    return write_numbers(numbers) if numbers else "-"


def write_numbers(numbers):
    """The numbers, separated by commas."""
    return ",".join([str(number) for number in numbers])


def write_paper(paper):
    """The text of a paper."""
    lines = []
    for size, level in enumerate(paper.levels):
        lines.append(f"level {size}")
        for item in level:
            lines.extend(lines_of(item))
    return "\n".join(lines)


def lines_of(item):
    """The lines of an item."""
    lines = [" ".join(["item"] + [write_layer(layer) for layer in item.structure])]
    for renamings in item.chain:
        lines.append(" ".join(["chain"] + [write_numbers(renaming) for renaming in renamings]))
    for layer, number, renaming in item.steps:
        lines.append(f"step {write_layer(layer)} to {number} by {write_numbers(renaming)}")
    return lines


def read_structure(text):
    """The structure of a text."""
    structure = whole([read_layer(word) for word in text.split(" ")]) if text else ()
    if structure is None:
        raise InvalidPaper(1)
    return structure


def read_layer(word):
    """The layer of a word, or None."""
    return () if word == "." else whole([read_part(text) for text in word.split("/")])


def read_part(text):
    """The values of a relation in the word of a layer, or None."""
    return () if text == "-" else read_numbers(text)


def read_numbers(text):
    """The tuple of numbers that are separated by commas, or None."""
    return whole([read_number(word) for word in text.split(",")])


def read_number(word):
    """The number of a word, or None."""
    if not word.isdigit() or len(word) > MOST_DIGITS or (word[0] == "0" and len(word) > 1):
        return None
    return int(word)


def whole(found):
    """What was found as a tuple, or None if one of it is missing."""
    return None if None in found else tuple(found)


def read_paper(text):
    """The paper of a text."""
    lines = [line.split(" ") for line in text.split("\n")]
    levels = []
    at = 0
    while at < len(lines):
        if lines[at] == ["level", str(len(levels))]:
            levels.append([])
            at += 1
        else:
            item, at = read_item(lines, at, len(levels) - 1)
            levels[-1].append(item)
    return Paper(levels)


def read_item(lines, at, size):
    """The item with so many points whose first line this is, and the number of the line behind it."""
    structure = layers_in(lines[at])
    if structure is None or len(structure) != size:
        raise InvalidPaper(at + 1)
    at += 1
    lists = []
    while len(lists) < size:
        renamings = renamings_in(lines[at]) if at < len(lines) else None
        if renamings is None:
            raise InvalidPaper(at + 1)
        lists.append(renamings)
        at += 1
    steps = []
    while at < len(lines) and lines[at][0] == "step":
        step = step_in(lines[at])
        if step is None:
            raise InvalidPaper(at + 1)
        steps.append(step)
        at += 1
    return (Item(structure, lists, steps), at)


def layers_in(words):
    """The structure in the words of a line of an item, or None."""
    return whole([read_layer(word) for word in words[1:]]) if words[0] == "item" else None


def renamings_in(words):
    """The renamings in the words of a line of a chain, or None."""
    if words[0] != "chain" or len(words) < 2:
        return None
    return whole([read_numbers(word) for word in words[1:]])


def step_in(words):
    """The step in the words of a line of a step, or None."""
    if len(words) != 6 or words[2] != "to" or words[4] != "by":
        return None
    return whole([read_layer(words[1]), read_number(words[3]), read_numbers(words[5])])


def audit(kind, text):
    """Whether the paper of the text is "accepted" or "refused" for the kind."""
    try:
        paper = read_paper(text)
    except InvalidPaper:
        return "refused"
    return "accepted" if accepts(kind, paper) else "refused"
