"""The errors that the program raises."""


class CensusError(ValueError):
    """The base class of all errors that the program raises."""


class SyntaxFault(CensusError):
    """A text has a token that cannot stand at its place."""

    def __init__(self, place):
        CensusError.__init__(self, f"no token can stand like this at place {place}")
        self.place = place


class UnknownName(CensusError):
    """A name stands for nothing."""

    def __init__(self, name):
        CensusError.__init__(self, f"unknown name {name}")
        self.name = name


class DuplicateName(CensusError):
    """A name is given twice."""

    def __init__(self, name):
        CensusError.__init__(self, f"name {name} is given twice")
        self.name = name


class WrongArity(CensusError):
    """Something does not have as many parts as the relation of that name demands."""

    def __init__(self, name):
        CensusError.__init__(self, f"wrong number of parts for {name}")
        self.name = name


class TooManyLayers(CensusError):
    """There are too many layers at a point."""

    def __init__(self, count):
        # The count has no place in the message: Python writes only numbers of limited length.
        CensusError.__init__(self, "too many layers at a point")
        self.count = count


class InvalidPaper(CensusError):
    """A line of a written paper does not have its form."""

    def __init__(self, line):
        CensusError.__init__(self, f"line {line} cannot stand in a paper")
        self.line = line
