"""What a formula says of a choice of points.

A condition is what is left of a formula when the known values are put in: True or False
where they decide it, otherwise a nested tuple of `not`, `and`, `or` and `same` over leaves
("at", slot, value), which say that a row of values has the value at the slot.
"""


def condition_of(formula, choice, known, slots):
    """The condition of the formula for the points of the choice.

    The dicts known and slots have keys (name, points). The first has the values that are
    known, the second has the slots of the others.
    """
    head = formula[0]
    if head == "is":
        return leaf_of(formula, choice, known, slots)
    if head == "true":
        return True
    if head == "false":
        return False
    first = condition_of(formula[1], choice, known, slots)
    if head == "not":
        return negated(first)
    if head == "implies":
        head = "or"
        first = negated(first)
    if (first is False and head == "and") or (first is True and head == "or"):
        return first
    return joined(head, first, condition_of(formula[2], choice, known, slots))


def leaf_of(atom, choice, known, slots):
    """The condition of an `is` formula."""
    key = (atom[1], tuple([choice[variable] for variable in atom[2]]))
    if key in known:
        return known[key] == atom[3]
    return ("at", slots[key], atom[3])


def joined(head, first, second):
    """The condition that joins two conditions by `and`, `or` or `same`."""
    if second is True or second is False:
        first, second = second, first
    if first is True:
        return True if head == "or" else second
    if first is False:
        return without_first(head, second)
    return (head, first, second)


def without_first(head, second):
    """What a condition says whose first part is False."""
    if head == "or":
        return second
    return False if head == "and" else negated(second)


def negated(condition):
    """The condition that holds where the other one does not."""
    if condition is True:
        return False
    return True if condition is False else ("not", condition)


def is_met(condition, row):
    """Whether an undecided condition is met by a row of values."""
    head = condition[0]
    if head == "at":
        return row[condition[1]] == condition[2]
    first = is_met(condition[1], row)
    if head == "not":
        return not first
    if head == "and":
        return first and is_met(condition[2], row)
    if head == "or":
        return first or is_met(condition[2], row)
    return first == is_met(condition[2], row)


def last_slot(condition):
    """The greatest slot that an undecided condition speaks of."""
    if condition[0] == "at":
        return condition[1]
    return max([last_slot(part) for part in condition[1:]])
