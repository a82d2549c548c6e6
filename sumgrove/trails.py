"""Receipts of the groups of an epoch, and trails by which others can follow them."""

from sumgrove.accounts import are_accounts
from sumgrove.deeds import group_names
from sumgrove.errors import GroveError, NoSuchName, NotShown
from sumgrove.groups import do_group
from sumgrove.names import number_of
from sumgrove.pruning import prune
from sumgrove.refusals import GroupRefused, InvalidGroup
from sumgrove.trees import get, is_well_formed, put, root_of

WORD_NUMBERS = {"open": 1, "close": 2, "move": 3, "mint": 4, "burn": 5, "change": 6, "rule": 7}
# With more digits the name of a receipt would be no name.
LAST_RECEIPT = 9999999


class BadStep(GroveError):
    """A step of a trail that cannot be followed."""

    def __init__(self, place):
        self.place = place


def row_of_group(group):
    """Return the row of a group."""
    row = [group.epoch, len(group.deeds)]
    for deed in group.deeds:
        row.extend(numbers_of_deed(deed))
    row.append(len(group.signatures))
    for name, shown in group.signatures:
        row.extend([number_of(name), len(shown)])
        for triple in shown:
            row.extend(triple)
    return tuple(row)


def numbers_of_deed(deed):
    """Return the list of the integers that write a deed in a row."""
    # An unknown word has a number, too, so that a receipt of a group of a wrong form is only not found.
    numbers = [WORD_NUMBERS.get(deed[0], 0)]
    for item in deed[1:]:
        if isinstance(item, tuple):
            numbers.extend(item)
        else:
            numbers.append(number_of(item) if isinstance(item, str) else item)
    return numbers


def mark_of_group(sealer, group):
    """Return the mark of a group."""
    return sealer.seal(row_of_group(group))


def receipt_name(number):
    """Return the name of the leaf of a receipt."""
    return f"g{number}"


class Receipts:
    """A tree with a leaf for each group that was done in an epoch."""

    def __init__(self, sealer):
        self._sealer = sealer
        self._tree = None
        self._length = 0

    def add(self, group, root):
        """Add a group and the root of the accounts after it; return its number in the epoch."""
        number = self._length
        notes = (mark_of_group(self._sealer, group), root)
        self._tree = put(self._tree, ("leaf", receipt_name(number), (1,), notes))
        self._length = number + 1
        return number

    def root(self):
        """Return the root of the tree."""
        return root_of(self._sealer, self._tree)

    def show(self, number):
        """Return the tree pruned for one receipt. Raise NoSuchName."""
        name = receipt_name(number)
        if number < 0 or number >= self._length:
            raise NoSuchName(name)
        return prune(self._sealer, self._tree, [name])


def check_receipt(sealer, receipts_root, number, group, root, tree):
    """Return True if a tree of receipts shows that a group was done and led to a root, otherwise False."""
    if number < 0 or number > LAST_RECEIPT:
        return False
    if not is_well_formed(sealer, tree) or root_of(sealer, tree) != receipts_root:
        return False
    try:
        leaf = get(tree, receipt_name(number))
    except NotShown:
        return False
    return leaf is not None and leaf[3] == (mark_of_group(sealer, group), root)


def step_of(sealer, rules, tree, group):
    """Return the tree of a step: what is enough for doing a group on a tree."""
    return prune(sealer, tree, group_names(rules, group))


def check_trail(sealer, rules, epoch, before, trail):
    """Return (root, root of the receipts) after the groups of a trail. Raise BadStep."""
    root = before
    receipts = Receipts(sealer)
    for place, (group, tree) in enumerate(trail):
        if not is_step_tree(sealer, rules, tree) or root_of(sealer, tree) != root:
            raise BadStep(place)
        try:
            after = do_group(sealer, rules, epoch, tree, group)
        except (InvalidGroup, GroupRefused, NotShown):
            raise BadStep(place) from None
        root = root_of(sealer, after)
        receipts.add(group, root)
    return (root, receipts.root())


def is_step_tree(sealer, rules, tree):
    """Return True if a tree is a well-formed one of accounts and cuts of accounts, otherwise False."""
    return is_well_formed(sealer, tree) and are_accounts(sealer, rules.kinds, tree)
