"""Kinds: relations with the sentences that hold for them."""

from oneofeach.errors import DuplicateName, UnknownName, WrongArity
from oneofeach.grammar import Reader, pass_lines, read_line_end, read_named_sentence, read_relation
from oneofeach.sentences import atoms_of, numbered_sentence, write_sentence

READY = {
    "graphs": "relation edge 2 values 2 symmetric",
    "digraphs": "relation arc 2 values 2",
    "tournaments": "relation arc 2 values 2\nall x y: arc(x, y) = 1 <-> arc(y, x) = 0",
    "orders": (
        "relation below 2 values 2\n"
        "all x y: not (below(x, y) = 1 and below(y, x) = 1)\n"
        "all x y z: below(x, y) = 1 and below(y, z) = 1 -> below(x, z) = 1"
    ),
    "equivalences": (
        "relation alike 2 values 2 symmetric\n"
        "all x y z: alike(x, y) = 1 and alike(y, z) = 1 -> alike(x, z) = 1"
    ),
    "trianglefree": (
        "relation edge 2 values 2 symmetric\n"
        "all x y z: not (edge(x, y) = 1 and edge(y, z) = 1 and edge(x, z) = 1)"
    ),
    "triples": "relation block 3 values 2 symmetric",
}


class Kind:
    """A list of relations and a list of sentences over them."""

    def __init__(self, relations, sentences):
        check_names(relations)
        for sentence in sentences:
            check_atoms(relations, sentence[1])
        self.relations = list(relations)
        self.sentences = list(sentences)


def check_names(relations):
    """Raise DuplicateName for the first relation with the name of an earlier one."""
    seen = set()
    for relation in relations:
        if relation[0] in seen:
            raise DuplicateName(relation[0])
        seen.add(relation[0])


def check_atoms(relations, formula):
    """Raise the error of the first atom that does not fit the relations."""
    arities = {relation[0]: relation[1] for relation in relations}
    for atom in atoms_of(formula):
        name = atom[1]
        if name not in arities:
            raise UnknownName(name)
        if len(atom[2]) != arities[name]:
            raise WrongArity(name)


def read_kind(text):
    """The kind of a text."""
    reader = Reader(text)
    pass_lines(reader)
    relations = []
    while reader.passes("relation"):
        relations.append(read_relation(reader))
        read_line_end(reader)
    named = []
    while not reader.shows("end"):
        named.append(read_named_sentence(reader))
        read_line_end(reader)
    return Kind(relations, [numbered_sentence(names, formula) for names, formula in named])


def write_kind(kind):
    """The text of a kind."""
    lines = [write_relation(relation) for relation in kind.relations]
    lines.extend([write_sentence(sentence) for sentence in kind.sentences])
    return "\n".join(lines)


def write_relation(relation):
    """The line of a relation."""
    name, arity, values, symmetric = relation
    line = f"relation {name} {arity} values {values}"
    return line + " symmetric" if symmetric else line


def ready(name):
    """The ready kind of that name."""
    if name not in READY:
        raise UnknownName(name)
    return read_kind(READY[name])
