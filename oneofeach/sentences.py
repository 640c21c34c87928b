"""Sentences and formulas."""


def atoms_of(formula):
    """The `is` formulas in the formula, the first part before the second part."""
    if formula[0] == "is":
        return [formula]
    atoms = []
    for part in formula[1:]:
        atoms.extend(atoms_of(part))
    return atoms
