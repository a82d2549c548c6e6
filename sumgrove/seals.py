"""Seals of rows, and collisions of rows."""

from sumgrove.errors import InvalidSealer

LEAST_MODULUS = 3
GREATEST_MODULUS = 2305843009213693951


class Sealer:
    """Computes the seals of rows by a modulus."""

    def __init__(self, modulus):
        if modulus < LEAST_MODULUS or modulus > GREATEST_MODULUS:
            raise InvalidSealer(modulus)
        self._modulus = modulus

    def modulus(self):
        """Return the modulus."""
        return self._modulus

    def seal(self, row):
        """Return the seal of a row, a tuple of integers from 0 on."""
        seal = 1
        for number in (*row, len(row)):
            seal = (seal * seal * seal + 5 * seal + 3 * number + 1) % self._modulus
        return seal


def is_collision(sealer, first, second):
    """Return True if two rows are different and have the same seal, otherwise False."""
    return first != second and sealer.seal(first) == sealer.seal(second)
