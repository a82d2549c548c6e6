"""Trees of sums: their form, their rows and roots, and the work on their leaves."""

from sumgrove.errors import NoSuchName, NotShown
from sumgrove.names import bit_at, is_name, number_of, parting

MOST_KINDS = 3
MOST_NOTES = 12
GREATEST_WORTH = 10 ** 15
GREATEST_NOTE = 2305843009213693952
# The greatest count and the greatest sum that a cut tells.
GREATEST_TOLD = 10 ** 24
# Each branch on a way down parts names at a later one of their 48 bits.
MOST_BRANCHES_DOWN = 48


def are_from_to(numbers, low, high):
    """Return True if all numbers are from low to high, otherwise False."""
    return all([low <= number <= high for number in numbers])


def is_valid_leaf(leaf):
    """Return True if the name, the worths and the notes of a leaf are as they must be."""
    _, name, worths, notes = leaf
    return (
        is_name(name)
        and 1 <= len(worths) <= MOST_KINDS
        and are_from_to(worths, 0, GREATEST_WORTH)
        and len(notes) <= MOST_NOTES
        and are_from_to(notes, 0, GREATEST_NOTE)
    )


def is_valid_cut(modulus, cut):
    """Return True if a cut tells what can be told of leaves, otherwise False."""
    seal, count, sums, least, greatest = cut[1]
    return (
        0 <= seal < modulus
        and 1 <= count <= GREATEST_TOLD
        and 1 <= len(sums) <= MOST_KINDS
        and are_from_to(sums, 0, GREATEST_TOLD)
        and is_name(least)
        and is_name(greatest)
        and (least == greatest if count == 1 else least < greatest)
    )


def are_sides(left_names, right_names):
    """Return True if two parts with these (least, greatest) names can be the sides of a branch."""
    place = parting(left_names[0], right_names[1])
    if place is None:
        return False
    for name, bit in ((left_names[0], 0), (left_names[1], 0), (right_names[0], 1), (right_names[1], 1)):
        if bit_at(name, place) != bit or not has_same_start(name, left_names[0], place):
            return False
    return True


def has_same_start(name, other, place):
    """Return True if two names have the same bits before a place, otherwise False."""
    parted = parting(name, other)
    return parted is None or parted >= place


def is_well_formed(sealer, tree):
    """Return True if a tree is well formed, otherwise False."""
    return tree is None or outline_of(sealer.modulus(), tree, 0) is not None


def outline_of(modulus, part, depth):
    """Return (kinds, least, greatest) of a part, or None if it breaks a rule of well-formed trees."""
    if part is None or depth > MOST_BRANCHES_DOWN:
        return None
    if part[0] == "leaf":
        return (len(part[2]), part[1], part[1]) if is_valid_leaf(part) else None
    if part[0] == "cut":
        return (len(part[1][2]), least_of(part), greatest_of(part)) if is_valid_cut(modulus, part) else None
    left = outline_of(modulus, part[1], depth + 1)
    if left is None:
        return None
    right = outline_of(modulus, part[2], depth + 1)
    if right is None or left[0] != right[0] or not are_sides(left[1:], right[1:]):
        return None
    return (left[0], left[1], right[2])


def least_of(tree):
    """Return the least name of a tree that is not empty."""
    part = tree
    while part[0] == "branch":
        part = part[1]
    return part[1] if part[0] == "leaf" else part[1][3]


def greatest_of(tree):
    """Return the greatest name of a tree that is not empty."""
    part = tree
    while part[0] == "branch":
        part = part[2]
    return part[1] if part[0] == "leaf" else part[1][4]


def count_of(tree):
    """Return how many leaves a tree that is not empty has, the cut ones included."""
    if tree[0] == "branch":
        return count_of(tree[1]) + count_of(tree[2])
    return 1 if tree[0] == "leaf" else tree[1][1]


def sums_of(tree):
    """Return the sums of the worths in a tree that is not empty, the cut ones included."""
    if tree[0] == "branch":
        return add_sums(sums_of(tree[1]), sums_of(tree[2]))
    return tree[2] if tree[0] == "leaf" else tree[1][2]


def add_sums(first, second):
    """Return the sums of two tuples of sums, kind by kind."""
    return tuple([one + other for one, other in zip(first, second)])


def numbers_of(summary):
    """Return the integers that tell a summary in a row."""
    seal, count, sums, least, greatest = summary
    return (seal, count, *sums, number_of(least), number_of(greatest))


def sealed(sealer, tree):
    """Return (summary, row, sides) of a tree that is not empty.

    The sides of a branch are a pair of such tuples. A cut has the row None,
    and all but branches have the sides (). So one way through a tree is
    enough for all of its rows.
    """
    if tree[0] == "cut":
        return (tree[1], None, ())
    if tree[0] == "leaf":
        _, name, worths, notes = tree
        row = (0, number_of(name), len(worths), *worths, *notes)
        return ((sealer.seal(row), 1, worths, name, name), row, ())
    sides = (sealed(sealer, tree[1]), sealed(sealer, tree[2]))
    left, right = sides[0][0], sides[1][0]
    row = (1, len(left[2]), *numbers_of(left), *numbers_of(right))
    summary = (sealer.seal(row), left[1] + right[1], add_sums(left[2], right[2]), left[3], right[4])
    return (summary, row, sides)


def summary_of(sealer, tree):
    """Return the summary of a well-formed tree that is not empty."""
    return sealed(sealer, tree)[0]


def row_of(sealer, tree):
    """Return the row of a well-formed tree that is not empty and not a cut."""
    return sealed(sealer, tree)[1]


def top_row(sealer, tree):
    """Return the top row of a well-formed tree."""
    if tree is None:
        return (2,)
    summary = summary_of(sealer, tree)
    return (3, len(summary[2]), *numbers_of(summary))


def root_of(sealer, tree):
    """Return the root of a well-formed tree."""
    return sealer.seal(top_row(sealer, tree))


def build(leaves):
    """Return the tree of a list of leaves with different names, in any order."""
    if not leaves:
        return None
    return build_sorted(sorted(leaves, key=lambda leaf: leaf[1]))


def build_sorted(leaves):
    """Return the tree of a list of one leaf or more, in the order of their names."""
    if len(leaves) == 1:
        return leaves[0]
    place = parting(leaves[0][1], leaves[-1][1])
    left = [leaf for leaf in leaves if bit_at(leaf[1], place) == 0]
    return ("branch", build_sorted(left), build_sorted(leaves[len(left):]))


def leaves_of(tree):
    """Return the list of the open leaves of a tree in the order of their names."""
    if tree is None or tree[0] == "cut":
        return []
    if tree[0] == "leaf":
        return [tree]
    return leaves_of(tree[1]) + leaves_of(tree[2])


def spans(tree, name):
    """Return True if a name is from the least to the greatest name of a tree that is not empty."""
    return least_of(tree) <= name <= greatest_of(tree)


def goes_into(name, part):
    """Return True if a name goes into a part, so that putting it changes this part."""
    least = least_of(part)
    place = parting(least, greatest_of(part))
    if place is None:
        return name == least
    return has_same_start(name, least, place)


def get(tree, name):
    """Return the leaf with a name, or None if there is none. Raise NotShown."""
    part = tree
    while part is not None and part[0] == "branch":
        part = part[1] if name <= greatest_of(part[1]) else part[2]
    if part is None or not spans(part, name):
        return None
    if part[0] == "cut":
        raise NotShown(name)
    return part


def put(tree, leaf):
    """Return the tree with a leaf in place of the one of its name, or as a new one. Raise NotShown."""
    if tree is None:
        return leaf
    if not goes_into(leaf[1], tree):
        return put_beside(tree, leaf)
    if tree[0] == "cut":
        raise NotShown(leaf[1])
    if tree[0] == "leaf":
        return leaf
    _, left, right = tree
    # A name may go into a side that it is not within: only its bit tells the side.
    if bit_at(leaf[1], parting(least_of(left), greatest_of(right))) == 0:
        return ("branch", put(left, leaf), right)
    return ("branch", left, put(right, leaf))


def put_beside(part, leaf):
    """Return the branch of a part and of a leaf whose name does not go into the part."""
    if leaf[1] < least_of(part):
        return ("branch", leaf, part)
    return ("branch", part, leaf)


def drop(tree, name):
    """Return the tree without the leaf of a name. Raise NotShown or NoSuchName."""
    if tree is None or not spans(tree, name):
        raise NoSuchName(name)
    if tree[0] == "cut":
        raise NotShown(name)
    if tree[0] == "leaf":
        return None
    _, left, right = tree
    if name <= greatest_of(left):
        rest = drop(left, name)
        return right if rest is None else ("branch", rest, right)
    rest = drop(right, name)
    return left if rest is None else ("branch", left, rest)
