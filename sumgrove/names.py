"""Names, the bits that they write, and the places at which they part."""

ALPHABET = "0123456789_abcdefghijklmnopqrstuvwxyz"
MOST_CHARACTERS = 8
CODES = 64
LAST_PLACE = 47


def is_name(value):
    """Return True if a string is a name, otherwise False."""
    return 1 <= len(value) <= MOST_CHARACTERS and all([character in ALPHABET for character in value])


def number_of(name):
    """Return the number that the 48 bits of a name write."""
    number = 0
    # A blank is not in the alphabet, so what fills up a short name has the code 0.
    for character in name[:MOST_CHARACTERS].ljust(MOST_CHARACTERS):
        number = number * CODES + ALPHABET.find(character) + 1
    return number


def bit_at(name, place):
    """Return the bit of a name at a place, 0 or 1; it is 0 at places that no name has."""
    if place > LAST_PLACE:
        return 0
    return number_of(name) >> (LAST_PLACE - place) & 1


def parting(first, second):
    """Return the place at which two names part, or None if they are equal."""
    difference = number_of(first) ^ number_of(second)
    if difference == 0:
        return None
    return LAST_PLACE + 1 - difference.bit_length()
