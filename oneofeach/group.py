"""Numbers for the symmetries that a chain gives."""

from oneofeach.renamings import followed, inverted


def order(lists):
    """The product of the lengths of the lists."""
    count = 1
    for renamings in lists:
        count = count * len(renamings)
    return count


def positions(lists, renaming):
    """The positions of a symmetry in the lists of a chain, or None if the renaming is no symmetry."""
    found = []
    rest = renaming
    for point, renamings in enumerate(lists):
        names = [each[point] for each in renamings]
        if rest[point] not in names:
            return None
        found.append(names.index(rest[point]))
        rest = followed(rest, inverted(renamings[found[-1]]))
    return found


def symmetry_number(lists, renaming):
    """The number of a symmetry by a chain, or None if the renaming is no symmetry."""
    found = positions(lists, renaming)
    if found is None:
        return None
    number = 0
    for renamings, position in zip(lists, found):
        number = number * len(renamings) + position
    return number


def symmetry_at(lists, number):
    """The symmetry with the number by a chain, or None if there is none."""
    if number < 0 or number >= order(lists):
        return None
    made = tuple(range(len(lists)))
    # What belongs to the last list comes first, as it is what remains when all others are undone.
    for renamings in reversed(lists):
        made = followed(made, renamings[number % len(renamings)])
        number = number // len(renamings)
    return made
