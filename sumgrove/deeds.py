"""Rules, groups of deeds, the form that they must have, and what can be told of a group without a tree."""

from sumgrove.accounts import MOST_LOCKS, MOST_MONEY, is_notes
from sumgrove.names import is_name
from sumgrove.refusals import InvalidGroup, InvalidRules
from sumgrove.trees import MOST_KINDS

BANK = "bank"
MINT = "mint"
MOST_FEE = 1000
MOST_IN_RATE = 1000
MOST_DEEDS = 20
# Keys have at most 40 decimal digits.
KEYS_END = 10 ** 40

# What stands behind the word of each deed.
FORMS = {
    "open": ("name", "notes"),
    "close": ("name",),
    "move": ("name", "name", "kind", "amount"),
    "mint": ("name", "kind", "amount"),
    "burn": ("name", "kind", "amount"),
    "change": ("name", "kind", "kind", "amount"),
    "rule": ("name", "notes"),
}


class Rules:
    """How many kinds of money there are, the fee, and the rates of exchange."""

    def __init__(self, kinds, fee, rates):
        if kinds < 1 or kinds > MOST_KINDS:
            raise InvalidRules("there are 1 to 3 kinds of money")
        if fee < 0 or fee > MOST_FEE:
            raise InvalidRules("the fee is from 0 to 1000")
        for pair in rates:
            if not is_rate(kinds, pair, rates[pair]):
                raise InvalidRules("a rate is for two different kinds and has two integers from 1 to 1000")
        self.kinds = kinds
        self.fee = fee
        self.rates = {pair: rates[pair] for pair in rates}


class Group:
    """Deeds that are done together, the signatures for them, and the epoch that they are meant for."""

    def __init__(self, deeds, signatures, epoch):
        self.deeds = deeds
        self.signatures = signatures
        self.epoch = epoch

    def __eq__(self, other):
        """Return True if the other one is a group with the same attributes, otherwise False."""
        return (
            isinstance(other, Group)
            and self.deeds == other.deeds
            and self.signatures == other.signatures
            and self.epoch == other.epoch
        )


def is_rate(kinds, pair, rate):
    """Return True if a pair of kinds can have a rate, and this is one, otherwise False."""
    return (
        len(pair) == 2
        and pair[0] != pair[1]
        and all([0 <= kind < kinds for kind in pair])
        and len(rate) == 2
        and all([1 <= number <= MOST_IN_RATE for number in rate])
    )


def check_group(sealer, rules, group):
    """Raise InvalidGroup if a group has not the form that it must have."""
    for index, deed in enumerate(group.deeds):
        if not is_deed(sealer, rules, deed):
            raise InvalidGroup(index)
    named = [signature[0] for signature in group.signatures]
    if (
        len(group.deeds) < 1
        or len(group.deeds) > MOST_DEEDS
        or not all([is_signature(sealer, signature) for signature in group.signatures])
        or len(set(named)) != len(named)
        or group.epoch < 0
    ):
        raise InvalidGroup(-1)


def is_deed(sealer, rules, deed):
    """Return True if a tuple that begins with a text is a deed, otherwise False."""
    forms = FORMS.get(deed[0])
    if forms is None or len(deed) != len(forms) + 1:
        return False
    return all([is_item(sealer, rules, form, item) for form, item in zip(forms, deed[1:])])


def is_item(sealer, rules, form, item):
    """Return True if an item of a deed has a form, otherwise False."""
    if form == "name":
        return isinstance(item, str) and is_name(item)
    if form == "notes":
        return isinstance(item, tuple) and is_notes(item, rules.kinds, sealer.modulus())
    if not isinstance(item, int):
        return False
    return 0 <= item < rules.kinds if form == "kind" else 1 <= item <= MOST_MONEY


def is_signature(sealer, signature):
    """Return True if a pair of a text and of triples of integers is a signature, otherwise False."""
    name, shown = signature
    places = [place for place, _, _ in shown]
    return (
        is_name(name)
        and 1 <= len(places) <= MOST_LOCKS
        and all([0 <= place < MOST_LOCKS for place in places])
        and all([low < high for low, high in zip(places, places[1:])])
        and all([0 <= key < KEYS_END and 1 <= lock <= sealer.modulus() for _, key, lock in shown])
    )


def group_names(rules, group):
    """Return the ascending list of the names that doing a group may look at."""
    names = [signature[0] for signature in group.signatures]
    words = [deed[0] for deed in group.deeds]
    for deed in group.deeds:
        names.extend([item for item in deed[1:] if isinstance(item, str)])
    if "change" in words or "move" in words and rules.fee > 0:
        names.append(BANK)
    if "mint" in words:
        names.append(MINT)
    return sorted(set(names))


def minted(group, kind):
    """Return what a group mints less what it burns of a kind."""
    return amount_of(group, "mint", kind) - amount_of(group, "burn", kind)


def amount_of(group, word, kind):
    """Return the sum of the amounts of the mint or burn deeds of a kind."""
    return sum([deed[3] for deed in group.deeds if deed[0] == word and deed[2] == kind])
