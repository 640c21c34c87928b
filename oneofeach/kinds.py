"""Kinds: relations with the sentences that hold for them."""

from oneofeach.errors import DuplicateName, UnknownName, WrongArity
from oneofeach.sentences import atoms_of


class Kind:
    """A list of relations and a list of sentences over them."""

    def __init__(self, relations, sentences):
        check_names(relations)
        for sentence in sentences:
            check_atoms(relations, sentence[1])
        self.relations = list(relations)
        self.sentences = list(sentences)


def check_names(relations):
    """Raise DuplicateName for the first relation with the name of an earlier one."""
    seen = set()
    for relation in relations:
        if relation[0] in seen:
            raise DuplicateName(relation[0])
        seen.add(relation[0])


def check_atoms(relations, formula):
    """Raise the error of the first atom that does not fit the relations."""
    arities = {relation[0]: relation[1] for relation in relations}
    for atom in atoms_of(formula):
        name = atom[1]
        if name not in arities:
            raise UnknownName(name)
        if len(atom[2]) != arities[name]:
            raise WrongArity(name)
