"""The errors that work on trees raises."""


class GroveError(ValueError):
    """The base class of all errors that the program raises."""


class InvalidSealer(GroveError):
    """A modulus with which no sealer can be made."""

    def __init__(self, modulus):
        self.modulus = modulus


class InvalidTree(GroveError):
    """A tree that is not well formed."""


class NoSuchName(GroveError):
    """A name that no leaf has."""

    def __init__(self, name):
        self.name = name


class NotShown(GroveError):
    """Something is needed that lies in a cut."""

    def __init__(self, name):
        self.name = name


class WrongRoot(GroveError):
    """A tree that has another root than the one that is asked for."""

    def __init__(self, root):
        self.root = root


class Unlike(GroveError):
    """Two different rows at the same place of two trees of the same root."""

    def __init__(self, first, second):
        self.first = first
        self.second = second


class InvalidText(GroveError):
    """A text that is not the written form of a tree."""

    def __init__(self, line, reason):
        self.line = line
        self.reason = reason
