"""The errors that work on accounts raises."""

from sumgrove.errors import GroveError


class InvalidRules(GroveError):
    """Rules that cannot be."""


class InvalidNotes(GroveError):
    """Notes that no account can have."""


class InvalidGroup(GroveError):
    """A group that has not the form of a group."""

    def __init__(self, index):
        self.index_of_deed = index


class GroupRefused(GroveError):
    """A group that breaks a rule."""

    def __init__(self, index, word):
        self.index_of_deed = index
        self.word = word


class TooManyEpochs(GroveError):
    """More epochs than a chronicle can have."""


class NoSuchEpoch(GroveError):
    """An epoch that there is not."""

    def __init__(self, epoch):
        self.epoch = epoch


class CutOff(GroveError):
    """An epoch of which the snapshot is not kept any more."""

    def __init__(self, epoch):
        self.epoch = epoch


class InvalidShelf(GroveError):
    """A number of snapshots that no shelf can keep."""

    def __init__(self, most):
        self.most = most


class BookRefused(GroveError):
    """A book of which a group is refused."""

    def __init__(self, place, index, word):
        self.place = place
        self.index_of_deed = index
        self.word = word


class InvalidHouse(GroveError):
    """A seed or a last epoch with which no house can be made."""


class InvalidValue(GroveError):
    """A value that no statement can have."""

    def __init__(self, value):
        self.value = value


class SignedAlready(GroveError):
    """An epoch for which another value was signed."""

    def __init__(self, epoch):
        self.epoch = epoch


class BadStatement(GroveError):
    """A statement that does not hold."""


class InvalidLine(GroveError):
    """A body of a line that is not the written form of a group."""

    def __init__(self, body):
        self.body = body


class NoAccount(GroveError):
    """A name that no account has."""

    def __init__(self, name):
        self.name = name
