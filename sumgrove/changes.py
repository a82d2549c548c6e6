"""Changes between two roots, shown by two trees in which all that is equal is cut."""

from sumgrove.errors import GroveError, InvalidTree, WrongRoot
from sumgrove.pruning import cut_of
from sumgrove.trees import is_well_formed, least_of, leaves_of, root_of


class Uneven(GroveError):
    """A change paper of which one tree has a cut that the other one has not."""

    def __init__(self, name):
        self.name = name


class PartNumbers:
    """Gives numbers to parts of trees, equal ones to equal parts."""

    def __init__(self):
        self._numbers = {}

    def numbered(self, part):
        """Return (number, part, sides) of a part, with such tuples for the sides of a branch."""
        if part[0] != "branch":
            return (self._number_of(part), part, ())
        sides = (self.numbered(part[1]), self.numbered(part[2]))
        # The numbers stand for the sides, since a key of a dict must not be nested as deeply as a tree is.
        return (self._number_of(("branch", sides[0][0], sides[1][0])), part, sides)

    def _number_of(self, key):
        """Return the number of a key; a new key gets the next number."""
        return self._numbers.setdefault(key, len(self._numbers))


def numbers_in(numbered):
    """Return the list of the numbers of a numbered part and of all parts in it."""
    number, _, sides = numbered
    found = [number]
    for side in sides:
        found.extend(numbers_in(side))
    return found


def cut_parts(sealer, numbered, numbers):
    """Return a numbered part with its largest parts cut that have one of the numbers of a dict."""
    number, part, sides = numbered
    if number in numbers:
        return cut_of(sealer, part)
    if not sides:
        return part
    return ("branch", cut_parts(sealer, sides[0], numbers), cut_parts(sealer, sides[1], numbers))


def change_paper(sealer, first, second):
    """Return the change paper of two well-formed trees."""
    if first is None or second is None:
        return (first, second)
    parts = PartNumbers()
    one = parts.numbered(first)
    other = parts.numbered(second)
    in_one = {number: True for number in numbers_in(one)}
    in_other = {number: True for number in numbers_in(other)}
    return (cut_parts(sealer, one, in_other), cut_parts(sealer, other, in_one))


def check_change(sealer, first_root, second_root, paper):
    """Return the list of the changes that a paper tells. Raise InvalidTree, WrongRoot, Uneven."""
    first, second = paper
    if not is_well_formed(sealer, first) or not is_well_formed(sealer, second):
        raise InvalidTree()
    check_root(sealer, first_root, first)
    check_root(sealer, second_root, second)
    check_cuts(cuts_of(first), cuts_of(second))
    check_cuts(cuts_of(second), cuts_of(first))
    return changes_between(leaves_by_name(first), leaves_by_name(second))


def check_root(sealer, root, tree):
    """Raise WrongRoot if a tree has another root."""
    actual = root_of(sealer, tree)
    if actual != root:
        raise WrongRoot(actual)


def cuts_of(tree):
    """Return the list of the cuts of a tree from the left."""
    if tree is None or tree[0] == "leaf":
        return []
    if tree[0] == "cut":
        return [tree]
    return cuts_of(tree[1]) + cuts_of(tree[2])


def check_cuts(cuts, other_cuts):
    """Raise Uneven for the first cut of a list that another list does not have."""
    known = {cut: True for cut in other_cuts}
    for cut in cuts:
        if cut not in known:
            raise Uneven(least_of(cut))


def leaves_by_name(tree):
    """Return a dict from the names of the open leaves of a tree to the leaves."""
    return {leaf[1]: leaf for leaf in leaves_of(tree)}


def changes_between(before, after):
    """Return the list of (name, leaf before, leaf after) for all names whose leaves differ, in order."""
    names = sorted(set(list(before) + list(after)))
    rows = [(name, before.get(name), after.get(name)) for name in names]
    return [row for row in rows if row[1] != row[2]]
