"""Auditors: they hear the statements of a house, and find the papers of two tongues."""

from sumgrove.accounts import lock_of
from sumgrove.houses import bit_of, many_bits, mark_of_card
from sumgrove.refusals import BadStatement


def is_tuple_of(value, length):
    """Return True if a value is a tuple of so many items, otherwise False."""
    return isinstance(value, tuple) and len(value) == length


def is_within(value, low, high):
    """Return True if a value is an integer from low to high, otherwise False."""
    return isinstance(value, int) and low <= value <= high


def is_card(sealer, value):
    """Return True if a value has the form of a card, otherwise False."""
    return is_tuple_of(value, many_bits(sealer)) and all([is_pair_of_locks(sealer, pair) for pair in value])


def is_pair_of_locks(sealer, value):
    """Return True if a value is a pair of integers that can be locks, otherwise False."""
    return is_tuple_of(value, 2) and all([is_within(lock, 1, sealer.modulus()) for lock in value])


def are_keys(sealer, value):
    """Return True if a value is a tuple of one integer from 0 for each bit place, otherwise False."""
    return is_tuple_of(value, many_bits(sealer)) and all([isinstance(key, int) and key >= 0 for key in value])


def holds(sealer, marks, card, statement):
    """Return True if a statement holds for marks and a card, otherwise False."""
    if not is_tuple_of(statement, 3):
        return False
    epoch, value, keys = statement
    return (
        is_within(epoch, 0, len(marks) - 1)
        and is_card(sealer, card)
        and mark_of_card(sealer, card) == marks[epoch]
        and is_within(value, 0, sealer.modulus() - 1)
        and are_keys(sealer, keys)
        and all([lock_of(sealer, key) == card[place][bit_of(value, place)] for place, key in enumerate(keys)])
    )


def check_paper(sealer, marks, paper):
    """Return True if a value is a paper of two tongues, otherwise False."""
    if not is_tuple_of(paper, 4):
        return False
    card, statement, other_card, other_statement = paper
    return (
        holds(sealer, marks, card, statement)
        and holds(sealer, marks, other_card, other_statement)
        and statement[0] == other_statement[0]
        and statement[1] != other_statement[1]
    )


def opened_twice(sealer, paper):
    """Return the places at which an accepted paper with equal cards has keys for both bits."""
    _, statement, _, other_statement = paper
    places = range(many_bits(sealer))
    return [place for place in places if bit_of(statement[1], place) != bit_of(other_statement[1], place)]


def paper_of(heard, other_heard):
    """Return the paper of two pairs (card, statement) for one epoch, or None if their values are equal."""
    if heard[1][1] == other_heard[1][1]:
        return None
    return (*heard, *other_heard)


class Auditor:
    """Keeps the first statement that it hears for each epoch."""

    def __init__(self, sealer, marks):
        self._sealer = sealer
        self._marks = tuple(marks)
        self._heard = {}

    def hear(self, card, statement):
        """Keep a statement if it is the first for its epoch; return a paper or None. Raise BadStatement."""
        if not holds(self._sealer, self._marks, card, statement):
            raise BadStatement("the statement does not hold for the marks and its card")
        first = self._heard.setdefault(statement[0], (card, statement))
        return paper_of(first, (card, statement))

    def kept(self):
        """Return a dict from the epochs of the kept statements to their values."""
        return {epoch: self._heard[epoch][1][1] for epoch in sorted(self._heard)}

    def meet(self, other):
        """Return the papers, ascending by epoch, for what both auditors keep with different values."""
        both = [epoch for epoch in sorted(self._heard) if other.heard(epoch) is not None]
        papers = [paper_of(self._heard[epoch], other.heard(epoch)) for epoch in both]
        return [paper for paper in papers if paper is not None]

    def heard(self, epoch):
        """Return the kept (card, statement) of an epoch, or None."""
        return self._heard.get(epoch)
