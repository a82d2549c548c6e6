"""Wallets: they keep the keys of accounts and sign with them."""

from sumgrove.accounts import MOST_LOCKS, lock_of
from sumgrove.errors import GroveError

# Rows begin with a number for what they are a row of.
FRESH_KEY_ROW = 13


class UnknownKeys(GroveError):
    """A name for which a wallet has not the keys that are needed."""

    def __init__(self, name):
        self.name = name


class Wallet:
    """For each account the key that opens the lock at each place, or None, and fresh keys from a seed."""

    def __init__(self, sealer, seed):
        self._sealer = sealer
        self._seed = seed
        self._drawn = 0
        self._keys = {}
        self._latest = None
        # From (name, place, next lock) to the next key, until it is told that a group was done or not.
        self._next_keys = {}

    def add(self, name, keys):
        """Take the keys of an account, in place of what is there."""
        self._keys[name] = keys

    def all_keys(self, name):
        """Return the keys of an account. Raise UnknownKeys."""
        if name not in self._keys:
            raise UnknownKeys(name)
        return self._keys[name]

    def names(self):
        """Return the ascending list of the names of the accounts."""
        return sorted(self._keys)

    def fresh(self):
        """Draw the next fresh key and return it."""
        key = self._sealer.seal((FRESH_KEY_ROW, self._seed, self._drawn))
        self._drawn = self._drawn + 1
        return key

    def notes_for(self, need, places, limit, hold):
        """Draw a key for each of the places and return notes with their locks."""
        keys = tuple([self.fresh() if place in places else None for place in range(MOST_LOCKS)])
        self._latest = keys
        locks = [0 if key is None else lock_of(self._sealer, key) for key in keys]
        return (*locks, need, limit, *hold)

    def remember(self, name):
        """Take the keys that were drawn latest for notes as those of an account. Raise UnknownKeys."""
        if self._latest is None:
            raise UnknownKeys(name)
        self._keys[name] = self._latest

    def sign(self, name, need):
        """Return a signature of an account. Raise UnknownKeys."""
        keys = self.all_keys(name)
        many = max(need, 1)
        places = [place for place, key in enumerate(keys) if key is not None][:many]
        if len(places) < many:
            raise UnknownKeys(name)
        return (name, tuple([(place, keys[place], self._next_lock(name, place)) for place in places]))

    def _next_lock(self, name, place):
        """Draw a next key for a place of an account and return its lock."""
        key = self.fresh()
        lock = lock_of(self._sealer, key)
        self._next_keys[(name, place, lock)] = key
        return lock

    def done(self, signatures):
        """Use the next keys of the signatures of a group that was done, and forget all others."""
        for name, shown in signatures:
            told = [(name, place, lock) for place, _, lock in shown]
            if all([one in self._next_keys for one in told]):
                for one in told:
                    self._use_next_key(one)
        self._next_keys = {}

    def _use_next_key(self, told):
        """Put the next key for (name, place, next lock) in the place of the key there."""
        name, place, _ = told
        keys = list(self._keys[name])
        keys[place] = self._next_keys[told]
        self._keys[name] = tuple(keys)

    def undone(self):
        """Forget all next keys."""
        self._next_keys = {}
