"""Sentences and formulas."""

from oneofeach.errors import DuplicateName, UnknownName
from oneofeach.grammar import Reader, read_named_sentence

VARIABLES = ("x", "y", "z", "w")

# For each operator with two operands: its sign, its level, and the least levels that its left and its
# right operand have without brackets.
OPERATORS = {
    "same": ("<->", 1, 1, 2),
    "implies": ("->", 2, 3, 2),
    "or": ("or", 3, 3, 4),
    "and": ("and", 4, 4, 5),
}
LEVEL_OF_NOT = 5


def read_sentence(text):
    """The sentence of a text."""
    reader = Reader(text)
    names, formula = read_named_sentence(reader)
    reader.take("end")
    return numbered_sentence(names, formula)


def numbered_sentence(names, formula):
    """The sentence in which the variables are numbers, for the list of the names."""
    for at, name in enumerate(names):
        if name in names[:at]:
            raise DuplicateName(name)
    return (len(names), numbered(formula, names))


def numbered(formula, names):
    """The formula with the numbers of the variables instead of their names."""
    if formula[0] == "is":
        return ("is", formula[1], numbers_of(formula[2], names), formula[3])
    return formula[:1] + tuple([numbered(part, names) for part in formula[1:]])


def numbers_of(variables, names):
    """The numbers of the variables of an atom."""
    numbers = []
    for name in variables:
        if name not in names:
            raise UnknownName(name)
        number = names.index(name)
        if number in numbers:
            raise DuplicateName(name)
        numbers.append(number)
    return tuple(numbers)


def write_sentence(sentence):
    """The text of a sentence."""
    count, formula = sentence
    names = "".join([" " + name for name in VARIABLES[:count]])
    return f"all{names}: {write_formula(formula, 1)}"


def write_formula(formula, required):
    """The text of a formula, in brackets if its level is less than its place requires."""
    head = formula[0]
    if head in ("true", "false"):
        return head
    if head == "is":
        return write_atom(formula)
    if head == "not":
        text = "not " + write_formula(formula[1], LEVEL_OF_NOT)
        level = LEVEL_OF_NOT
    else:
        sign, level, left, right = OPERATORS[head]
        text = f"{write_formula(formula[1], left)} {sign} {write_formula(formula[2], right)}"
    return f"({text})" if level < required else text


def write_atom(atom):
    """The text of an `is` formula."""
    names = ", ".join([VARIABLES[variable] for variable in atom[2]])
    return f"{atom[1]}({names}) = {atom[3]}"


def atoms_of(formula):
    """The `is` formulas in the formula, the first part before the second part."""
    if formula[0] == "is":
        return [formula]
    atoms = []
    for part in formula[1:]:
        atoms.extend(atoms_of(part))
    return atoms
