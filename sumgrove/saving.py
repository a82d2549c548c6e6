"""Saving a ledger as a text of lines, and loading it again."""

from sumgrove.accounts import is_account
from sumgrove.epochs import MOST_EPOCHS
from sumgrove.errors import GroveError, InvalidText, NotShown
from sumgrove.groups import do_group
from sumgrove.journals import read_group, read_line, write_group
from sumgrove.ledgers import SNAPSHOTS, Ledger
from sumgrove.refusals import GroupRefused, InvalidGroup, InvalidLine
from sumgrove.texts import is_written_number, lines_of, read_tree

GREATEST_COUNT = 10 ** 15
# Integers of the text have at most 25 digits.
GREATEST_NUMBER = 10 ** 25 - 1


class InvalidSave(GroveError):
    """A text that is not the saved form of a ledger."""

    def __init__(self, line):
        self.line = line


def save_ledger(ledger):
    """Return the saved form of a ledger."""
    tree, epoch, rows, snapshots, trail, journal = ledger.parts()
    lines = [f"epoch {epoch}"] + section_of("tree", [], lines_of(tree))
    for root, count, receipts_root in rows:
        lines.append(f"row {root} {count} {receipts_root}")
    for kept, snapshot in snapshots:
        lines.extend(section_of(f"snapshot {kept}", [], lines_of(snapshot)))
    for group, step in trail:
        lines.extend(section_of("step", [write_group(group)], lines_of(step)))
    lines.extend(section_of("journal", [], journal.split("\n")[:-1]))
    return "\n".join(lines)


def section_of(words, before, lines):
    """Return the lines of a section: its words with the number of lines, what comes before these, and the lines."""
    return [f"{words} {len(lines)}"] + before + lines


class Reader:
    """The lines of a text, which are taken one after the other."""

    def __init__(self, text):
        self._lines = text.split("\n")
        self._taken = 0

    def last_line(self):
        """Return the number of the line that was taken last."""
        return self._taken

    def begins_with(self, word):
        """Return True if there is a next line, and this is its first word, otherwise False."""
        return self._taken < len(self._lines) and self._lines[self._taken].partition(" ")[0] == word

    def take(self, many):
        """Return the list of the next lines. Raise InvalidSave if there are not so many."""
        taken = self._lines[self._taken:self._taken + many]
        if len(taken) < many:
            raise InvalidSave(len(self._lines) + 1)
        self._taken = self._taken + many
        return taken

    def take_section(self, word, bounds):
        """Return the integers behind a word in the next line, each within its bounds. Raise InvalidSave."""
        first, *written = self.take(1)[0].split(" ")
        if first != word or len(written) != len(bounds) or not all([is_written_number(one) for one in written]):
            raise InvalidSave(self._taken)
        numbers = [int(one) for one in written]
        if not all([low <= number <= high for number, (low, high) in zip(numbers, bounds)]):
            raise InvalidSave(self._taken)
        return numbers

    def stop(self):
        """Raise InvalidSave if lines are left."""
        if self._taken < len(self._lines):
            raise InvalidSave(self._taken + 1)


def load_ledger(sealer, rules, notes, text):
    """Return a new ledger with the parts that a text tells. Raise InvalidNotes, InvalidSave."""
    ledger = Ledger(sealer, rules, notes)
    ledger.take_over(read_parts(sealer, rules, Reader(text)))
    return ledger


def read_parts(sealer, rules, reader):
    """Return the parts of a ledger as the lines of a reader tell them. Raise InvalidSave."""
    epoch = reader.take_section("epoch", [(0, MOST_EPOCHS)])[0]
    many = reader.take_section("tree", [(1, GREATEST_NUMBER)])[0]
    tree = take_whole_tree(sealer, rules, reader, many)
    seals = (0, sealer.modulus() - 1)
    rows = [tuple(reader.take_section("row", [seals, (0, GREATEST_COUNT), seals])) for _ in range(epoch)]
    snapshots = []
    for kept in range(max(0, epoch - SNAPSHOTS), epoch):
        many = reader.take_section("snapshot", [(kept, kept), (1, GREATEST_NUMBER)])[1]
        snapshots.append((kept, take_whole_tree(sealer, rules, reader, many)))
    trail = []
    while reader.begins_with("step"):
        trail.append(take_step(sealer, rules, epoch, reader))
    journal = take_journal(reader)
    reader.stop()
    return (tree, epoch, rows, snapshots, trail, journal)


def take_whole_tree(sealer, rules, reader, many):
    """Take so many lines of a tree of accounts without cuts and return it. Raise InvalidSave."""
    first = reader.last_line() + 1
    return tree_of(sealer, rules, reader.take(many), first, False)


def take_step(sealer, rules, epoch, reader):
    """Take the lines of a step of a trail and return it. Raise InvalidSave."""
    many = reader.take_section("step", [(1, GREATEST_NUMBER)])[0]
    line = reader.last_line()
    taken = reader.take(many + 1)
    try:
        group = read_group(taken[0])
    except InvalidLine:
        raise InvalidSave(line + 1) from None
    tree = tree_of(sealer, rules, taken[1:], line + 2, True)
    try:
        do_group(sealer, rules, epoch, tree, group)
    except (InvalidGroup, GroupRefused, NotShown):
        raise InvalidSave(line) from None
    return (group, tree)


def take_journal(reader):
    """Take the lines of a journal and return its text. Raise InvalidSave."""
    many = reader.take_section("journal", [(0, GREATEST_NUMBER)])[0]
    first = reader.last_line() + 1
    lines = reader.take(many)
    for number, line in enumerate(lines, start=first):
        try:
            read_line(line)
        except InvalidLine:
            raise InvalidSave(number) from None
    return "".join([line + "\n" for line in lines])


def tree_of(sealer, rules, lines, first, has_cuts):
    """Return the tree of accounts that lines write, the first one of a number in the text. Raise InvalidSave."""
    try:
        tree = read_tree(sealer, "\n".join(lines))
    except InvalidText as problem:
        raise InvalidSave(first + problem.line - 1) from None
    # The written form of a tree has one line for each part, in the same order.
    for number, part in enumerate(parts_in_order(tree), start=first):
        if not fits(sealer, rules.kinds, part, has_cuts):
            raise InvalidSave(number)
    return tree


def parts_in_order(tree):
    """Return the list of all parts of a tree in preorder; the empty tree has none to look at."""
    if tree is None:
        return []
    if tree[0] == "branch":
        return [tree] + parts_in_order(tree[1]) + parts_in_order(tree[2])
    return [tree]


def fits(sealer, kinds, part, has_cuts):
    """Return True if a part can be in a tree of accounts, one with or without cuts, otherwise False."""
    if part[0] == "cut":
        return has_cuts and len(part[1][2]) == kinds
    return part[0] == "branch" or is_account(sealer, kinds, part)
