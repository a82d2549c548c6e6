"""Collisions between two trees of the same root, and among rows."""

from sumgrove.trees import root_of, sealed, top_row


def find_collision(sealer, first, second):
    """Return the rows of the first collision between two well-formed trees, or None."""
    if root_of(sealer, first) != root_of(sealer, second):
        return None
    return unlike_rows(sealer, first, second)


def unlike_rows(sealer, first, second):
    """Return the first two different rows of two trees, the top rows before those of open parts, or None."""
    tops = (top_row(sealer, first), top_row(sealer, second))
    if tops[0] != tops[1]:
        return tops
    if first is None:
        return None
    return unlike_parts(sealed(sealer, first), sealed(sealer, second))


def unlike_parts(first, second):
    """Return the first two different rows, in preorder, of two sealed parts at the same place, or None."""
    _, first_row, first_sides = first
    _, second_row, second_sides = second
    if first_row is None or second_row is None:
        return None
    if first_row != second_row:
        return (first_row, second_row)
    for one, other in zip(first_sides, second_sides):
        found = unlike_parts(one, other)
        if found is not None:
            return found
    return None


def search_collision(sealer, rows):
    """Return the first two rows of a list that are a collision, or None."""
    # All rows before a collision that have one seal are equal, so the first of them is enough.
    first_rows = {}
    for row in rows:
        earlier = first_rows.setdefault(sealer.seal(row), row)
        if earlier != row:
            return (earlier, row)
    return None
