"""Reading sentences and relations token by token.

What is read of a sentence still has the names of its variables in the place of numbers.
"""

from oneofeach.errors import SyntaxFault
from oneofeach.tokens import tokens_to_fault

MOST_VARIABLES = 4
MOST_POINTS = 3

# The operators with two operands, level by level.
LEVELS = (("<->", "same"), ("->", "implies"), ("or", "or"), ("and", "and"))


class Reader:
    """The tokens of a text, and the number of the next one."""

    def __init__(self, text):
        self.tokens = tokens_to_fault(text)
        self.at = 0

    def shows(self, kind):
        """Whether the next token is of the kind."""
        return self.tokens[self.at][0] == kind

    def passes(self, word):
        """Whether the next token is that word or sign; if so, it is passed."""
        # No name, and no token without a text of its own, has the value of a word or a sign.
        found = self.tokens[self.at][1] == word
        if found:
            self.at += 1
        return found

    def demand(self, word):
        """Pass that word or sign."""
        if not self.passes(word):
            self.refuse()

    def take(self, kind):
        """Pass a token of the kind; its value."""
        if not self.shows(kind):
            self.refuse()
        self.at += 1
        return self.tokens[self.at - 1][1]

    def take_number(self, low, high):
        """Pass a number within the bounds; its value. Without an upper bound, high is None."""
        number = self.tokens[self.at][1]
        if not self.shows("number") or number < low or (high is not None and number > high):
            self.refuse()
        return self.take("number")

    def refuse(self):
        """Raise SyntaxFault for the next token."""
        raise SyntaxFault(self.tokens[self.at][2])


def read_named_sentence(reader):
    """The pair of the list of variables and the formula of a sentence."""
    reader.demand("all")
    names = [reader.take("name")]
    while len(names) < MOST_VARIABLES and reader.shows("name"):
        names.append(reader.take("name"))
    reader.demand(":")
    return (names, read_formula(reader, 0))


def read_formula(reader, level):
    """A formula whose operators outside of brackets are of that level (from 0 on) or a later one."""
    if level == len(LEVELS):
        return read_denied(reader)
    sign, head = LEVELS[level]
    parts = [read_formula(reader, level + 1)]
    while reader.passes(sign):
        parts.append(read_formula(reader, level + 1))
    return joined_right(head, parts) if head == "implies" else joined_left(head, parts)


def joined_left(head, parts):
    """The parts joined by an operator that associates to the left."""
    formula = parts[0]
    for part in parts[1:]:
        formula = (head, formula, part)
    return formula


def joined_right(head, parts):
    """The parts joined by an operator that associates to the right."""
    formula = parts[-1]
    for part in reversed(parts[:-1]):
        formula = (head, part, formula)
    return formula


def read_denied(reader):
    """An atom behind any number of `not`."""
    count = 0
    while reader.passes("not"):
        count += 1
    formula = read_atom(reader)
    for _ in range(count):
        formula = ("not", formula)
    return formula


def read_atom(reader):
    """`true`, `false`, a formula in brackets or an `is` formula."""
    for word in ("true", "false"):
        if reader.passes(word):
            return (word,)
    if reader.passes("("):
        formula = read_formula(reader, 0)
        reader.demand(")")
        return formula
    name = reader.take("name")
    reader.demand("(")
    variables = [reader.take("name")]
    while len(variables) < MOST_POINTS and reader.passes(","):
        variables.append(reader.take("name"))
    reader.demand(")")
    reader.demand("=")
    return ("is", name, tuple(variables), reader.take("number"))


def read_relation(reader):
    """A relation, behind its first word."""
    name = reader.take("name")
    arity = reader.take_number(1, MOST_POINTS)
    reader.demand("values")
    values = reader.take_number(1, None)
    return (name, arity, values, reader.passes("symmetric"))


def read_line_end(reader):
    """Pass a newline and all that follow it directly; at the end of the text nothing is passed."""
    if not reader.shows("end"):
        reader.take("line")
        pass_lines(reader)


def pass_lines(reader):
    """Pass all newlines up to the next token."""
    while reader.shows("line"):
        reader.take("line")
