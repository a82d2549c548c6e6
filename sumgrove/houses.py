"""Houses: they sign the top of a chronicle for each epoch, with keys that are told once."""

from sumgrove.accounts import lock_of
from sumgrove.refusals import InvalidHouse, InvalidValue, NoSuchEpoch, SignedAlready

GREATEST_LAST_EPOCH = 50
# Rows begin with a number for what they are a row of.
HOUSE_KEY_ROW = 9
CARD_ROW = 11


def many_bits(sealer):
    """Return how many binary digits the modulus has; each value and card has so many places."""
    return sealer.modulus().bit_length()


def bit_of(value, place):
    """Return the bit of a value at a place, the lowest one at the place 0."""
    return value >> place & 1


def mark_of_card(sealer, card):
    """Return the mark of a card."""
    return sealer.seal((CARD_ROW, *[lock for pair in card for lock in pair]))


class House:
    """Signs one value for each epoch from 0 to a last one."""

    def __init__(self, sealer, seed, last):
        if seed < 0:
            raise InvalidHouse("a seed is an integer from 0")
        if last < 0 or last > GREATEST_LAST_EPOCH:
            raise InvalidHouse("the last epoch is from 0 to 50")
        self._sealer = sealer
        self._seed = seed
        self._last = last
        self._signed = {}

    def marks(self):
        """Return the marks of all epochs."""
        return tuple([mark_of_card(self._sealer, self.card(epoch)) for epoch in range(self._last + 1)])

    def card(self, epoch):
        """Return the card of an epoch. Raise NoSuchEpoch."""
        self._check_epoch(epoch)
        return tuple([self._pair(epoch, place) for place in range(many_bits(self._sealer))])

    def sign(self, epoch, value):
        """Return the statement with a value for an epoch. Raise NoSuchEpoch, InvalidValue, SignedAlready."""
        statement = self.sign_again(epoch, value)
        if self._signed.setdefault(epoch, value) != value:
            raise SignedAlready(epoch)
        return statement

    def sign_again(self, epoch, value):
        """Return the statement with a value, whatever else was signed. Raise NoSuchEpoch, InvalidValue."""
        self._check_epoch(epoch)
        if value < 0 or value >= self._sealer.modulus():
            raise InvalidValue(value)
        places = range(many_bits(self._sealer))
        return (epoch, value, tuple([self._key(epoch, place, bit_of(value, place)) for place in places]))

    def _check_epoch(self, epoch):
        """Raise NoSuchEpoch if the house does not sign for an epoch."""
        if epoch < 0 or epoch > self._last:
            raise NoSuchEpoch(epoch)

    def _key(self, epoch, place, bit):
        """Return the key for a bit at a place."""
        return self._sealer.seal((HOUSE_KEY_ROW, self._seed, epoch, place, bit))

    def _pair(self, epoch, place):
        """Return the locks of both keys of a place."""
        return tuple([lock_of(self._sealer, self._key(epoch, place, bit)) for bit in (0, 1)])
