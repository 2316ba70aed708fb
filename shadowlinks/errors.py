"""The errors of the program."""


class ShadowError(ValueError):
    """The base class of all errors of the program."""


class InvalidName(ShadowError):
    """A string is not a name."""

    def __init__(self, name):
        super().__init__(f"{name!r} is not a name")
        self.name = name


class InvalidTheory(ShadowError):
    """The names of a theory are not full names in ascending order."""


class InvalidConstraint(ShadowError):
    """A constraint is not valid, or there is none with this index."""

    def __init__(self, index):
        super().__init__(f"the constraint {index} is not valid")
        self.index = index


class InvalidPart(ShadowError):
    """A name does not fit into a part."""

    def __init__(self, name):
        super().__init__(f"the name {name!r} does not fit")
        self.name = name


class InvalidLink(ShadowError):
    """A part does not fit into a link."""

    def __init__(self, name):
        super().__init__(f"the part {name!r} does not fit")
        self.name = name


class InvalidTree(ShadowError):
    """The places of a name are not connected in a tree."""

    def __init__(self, name):
        super().__init__(f"the places of {name!r} are not connected")
        self.name = name


class InvalidText(ShadowError):
    """A line of a text is not a written form."""

    def __init__(self, line):
        super().__init__(f"the line {line} is not a written form")
        self.line = line


class NoSolution(ShadowError):
    """There is no solution."""


class NothingToUndo(ShadowError):
    """There are too few deeds to take back or to do again."""


class UnknownPart(ShadowError):
    """No part has this name."""

    def __init__(self, name):
        super().__init__(f"no part has the name {name!r}")
        self.name = name


class Incompatible(ShadowError):
    """A new edition of a part fails in a surrounding in which the old one works."""

    def __init__(self, surrounding):
        super().__init__("the new edition does not work in every surrounding of the old one")
        self.surrounding = surrounding
