import unittest
from random import Random

from sumgrove.deeds import Group, Rules
from sumgrove.errors import GroveError
from sumgrove.journals import end_line, group_line, write_group
from sumgrove.ledgers import Ledger
from sumgrove.pruning import prune
from sumgrove.refusals import InvalidNotes
from sumgrove.saving import InvalidSave, load_ledger, save_ledger
from sumgrove.seals import Sealer
from sumgrove.texts import read_tree, write_tree
from tests.helper import PRIME, SEALER, cut, leaf, locked, noted, outcome
from tests.test_ledgers import RULES, burn, filled_ledger, group_of, new_ledger, opening, state_of


def busy_ledger(epochs):
    ledger = filled_ledger(epochs)
    ledger.do_batch([opening()] if epochs == 0 else [burn(epochs, "ann", 1), burn(epochs, "bob", 2)])
    return ledger


def empty_ledger(epochs=0):
    """A ledger without accounts."""
    ledger = new_ledger()
    for _ in range(epochs):
        ledger.end_epoch()
    ledger.do(group_of(epochs, ("close", "mint")))
    return ledger


def load(text, rules=RULES):
    return load_ledger(SEALER, rules, noted(), text)


def section(words, tree):
    """The lines of a section with a tree."""
    lines = write_tree(tree).split("\n")
    return [f"{words} {len(lines)}", *lines]


def expected_lines(ledger):
    """Point 160, once more."""
    tree, epoch, rows, snapshots, trail, journal = ledger.parts()
    lines = [f"epoch {epoch}", *section("tree", tree)]
    for number in range(epoch):
        chronicle = ledger.chronicle()
        lines.append("row " + " ".join(str(one) for one in (
            chronicle.root_of(number), chronicle.count_of(number), chronicle.receipts_of(number))))
    for number in range(max(0, epoch - 5), epoch):
        lines += section(f"snapshot {number}", ledger.shelf().snapshot(number))
    for group, step in trail:
        head, *rest = section("step", step)
        lines += [head, write_group(group), *rest]
    return lines + [f"journal {journal.count(chr(10))}", *journal.split("\n")[:-1]]


class SaveTest(unittest.TestCase):
    """Point 160."""

    def test_new_ledger_in_letters(self):
        self.assertEqual(save_ledger(new_ledger()), "\n".join([
            "epoch 0", "tree 1", "leaf mint 0,0 0,0,0,0,0,0,0,0", "journal 0"]))

    def test_in_letters(self):
        ledger = new_ledger()
        root = ledger.root()
        ledger.end_epoch()
        ledger.do(group_of(1, ("open", "ann", noted())))
        empty = ledger.chronicle().receipts_of(0)
        self.assertEqual(save_ledger(ledger), "\n".join([
            "epoch 1", "tree 3", "branch", "leaf ann 0,0 0,0,0,0,0,0,0,0", "leaf mint 0,0 0,0,0,0,0,0,0,0",
            f"row {root} 0 {empty}", "snapshot 0 1", "leaf mint 0,0 0,0,0,0,0,0,0,0",
            "step 1", "1 1 open ann 0 0 0 0 0 0 0 0 0", write_tree(cut(leaf("mint", (0, 0), noted()))),
            "journal 2", "3 end", "30 1 1 open ann 0 0 0 0 0 0 0 0 0"]))

    def test_no_account(self):
        self.assertEqual(save_ledger(empty_ledger()), "\n".join([
            "epoch 0", "tree 1", "empty", "step 1", "0 1 close mint 0", "leaf mint 0,0 0,0,0,0,0,0,0,0", "journal 1",
            "16 0 1 close mint 0"]))

    def test_many_ledgers(self):
        for epochs in (0, 1, 2, 4, 5, 6, 9):
            for ledger in (filled_ledger(epochs), busy_ledger(epochs), empty_ledger(epochs)):
                before = state_of(ledger)
                self.assertEqual(save_ledger(ledger).split("\n"), expected_lines(ledger))
                self.assertEqual(state_of(ledger), before)


class LoadTest(unittest.TestCase):
    """Point 161: a saved form gives the ledger."""

    def check(self, ledger, rules=RULES):
        text = save_ledger(ledger)
        again = load_ledger(SEALER, rules, noted(), text)
        self.assertEqual(state_of(again), state_of(ledger))
        self.assertEqual(save_ledger(again), text)
        self.assertIsNot(again, ledger)

    def test_ledgers(self):
        for epochs in (0, 1, 2, 4, 5, 6, 9):
            for ledger in (filled_ledger(epochs), busy_ledger(epochs), empty_ledger(epochs)):
                self.check(ledger)
                ledger.end_epoch()
                self.check(ledger)

    def test_going_on(self):
        ledger = busy_ledger(6)
        again = load(save_ledger(ledger))
        for one in (ledger, again):
            one.do(burn(6, "ann", 3))
            one.end_epoch()
            one.do(burn(7, "bob", 1))
        self.assertEqual(state_of(again), state_of(ledger))

    def test_a_thousand_epochs(self):
        ledger = new_ledger()
        for _ in range(1000):
            ledger.end_epoch()
        ledger.do(opening(1000))
        self.check(ledger)
        text = save_ledger(ledger)
        self.assertEqual(outcome(load, text.replace("epoch 1000", "epoch 1001", 1)), ("InvalidSave", {"line": 1}))

    def test_kinds_and_locks(self):
        for kinds in (1, 2, 3):
            rules = Rules(kinds, 0, {})
            ledger = Ledger(SEALER, rules, noted())
            ledger.do(group_of(0, ("open", "ann", locked(1, 2, need=2, limit=10 ** 12, hold=(kinds - 1, 5, 10 ** 6))),
                               ("mint", "ann", kinds - 1, 10 ** 12)))
            self.check(ledger, rules)

    def test_notes(self):
        text = save_ledger(busy_ledger(2))
        for notes in (locked(5), noted(hold=(1, 5, 3))):
            self.assertEqual(state_of(load_ledger(SEALER, RULES, notes, text)), state_of(busy_ledger(2)))
        for wrong in ((), noted(need=1), noted(hold=(2, 0, 0))):
            for some in (text, "", "x"):
                with self.assertRaises(InvalidNotes):
                    load_ledger(SEALER, RULES, wrong, some)

    def test_parts_that_do_not_belong_together(self):
        ledger = busy_ledger(2)
        other = filled_ledger(1)
        lines = save_ledger(ledger).split("\n")
        rows = [number for number, line in enumerate(lines) if line.startswith("row")]
        lines[rows[0]] = f"row {PRIME - 1} 1000000000000000 0"
        text = "\n".join([lines[0], *section("tree", other.tree()), *lines[rows[0]:rows[1] + 1],
                          *section("snapshot 0", None), *section("snapshot 1", leaf("zoe", (1, 2), noted())),
                          "step 1", "2 1 open eve 0 0 0 0 0 0 0 0 0", "empty", "journal 1", "5 0 0 0"])
        tree, epoch, told, snapshots, trail, journal = load(text).parts()
        self.assertEqual((tree, epoch, journal), (other.tree(), 2, "5 0 0 0\n"))
        self.assertEqual(told, [(PRIME - 1, 10 ** 15, 0), ledger.parts()[2][1]])
        self.assertEqual(snapshots, [(0, None), (1, leaf("zoe", (1, 2), noted()))])
        self.assertEqual(trail, [(group_of(2, ("open", "eve", noted())), None)])

    def test_error_class(self):
        self.assertEqual(InvalidSave.__bases__, (GroveError,))
        self.assertEqual(vars(InvalidSave(5)), {"line": 5})
        self.assertEqual(vars(InvalidSave(line=5)), {"line": 5})


class BrokenTest(unittest.TestCase):
    """Point 161: what is told of a text that is not a saved form."""

    def setUp(self):
        ledger = filled_ledger(2)
        ledger.do(burn(2, "ann", 1))
        ledger.do(group_of(2, ("open", "eve", noted()), ("move", "ann", "eve", 0, 4)))
        self.lines = save_ledger(ledger).split("\n")
        self.assertEqual(self.lines, expected_lines(ledger))

    def first_word(self, number):
        return self.lines[number - 1].split(" ")[0]

    def lines_with(self, word):
        return [number for number in range(1, len(self.lines) + 1) if self.first_word(number) == word]

    def check(self, line, lines):
        self.assertEqual(outcome(load, "\n".join(lines)), ("InvalidSave", {"line": line}), "\n".join(lines))

    def changed(self, number, *new):
        """The lines with other ones in the place of the one of a number."""
        return [*self.lines[:number - 1], *new, *self.lines[number:]]

    def check_changed(self, number, *texts):
        """The line of a number, changed to each of the texts, is told."""
        for text in texts:
            self.check(number, self.changed(number, text))

    def heads(self):
        """The numbers of the lines that begin sections."""
        return [number for word in ("epoch", "tree", "row", "snapshot", "step", "journal") for number in self.lines_with(word)]

    def test_right(self):
        self.assertEqual(save_ledger(load("\n".join(self.lines))).split("\n"), self.lines)

    def test_forms_of_sections(self):
        for number in self.heads():
            line = self.lines[number - 1]
            self.check_changed(number, "", line + " ", " " + line, line + " 0", line.replace(" ", "  ", 1), line.upper(),
                               line.replace(" ", "\t", 1), "x" + line, line.partition(" ")[0], line.rpartition(" ")[0],
                               "s" + line[1:] if line[0] != "s" else "t" + line[1:], line + "x", line.replace(" ", "-", 1))
            words = line.split(" ")
            for place in range(1, len(words)):
                for word in ("", "x", "-1", "+1", "01", "00", "1.0", "1_0", "\u0661", "0x1", "1e1", "-", ",",
                             "0" + words[place], "+" + words[place], words[place] + "0" * 25, "9" * 26, "1" + "0" * 25):
                    self.check_changed(number, " ".join([*words[:place], word, *words[place + 1:]]))

    def test_epoch(self):
        self.check_changed(1, "epoch -1", "epoch 1001", "epoch 10000", "epoch " + "9" * 25)
        rows, snapshots = self.lines_with("row"), self.lines_with("snapshot")
        # With another number of epochs the number of rows is wrong.
        for epoch, line in ((0, rows[0]), (1, rows[1]), (3, snapshots[0]), (1000, snapshots[0])):
            self.check(line, self.changed(1, f"epoch {epoch}"))

    def test_rows(self):
        for number in self.lines_with("row"):
            _, root, count, receipts = self.lines[number - 1].split(" ")
            for good in (f"row {PRIME - 1} {count} {receipts}", f"row {root} {count} {PRIME - 1}", "row 0 0 0",
                         f"row {root} 1000000000000000 {receipts}"):
                told = load("\n".join(self.changed(number, good))).parts()[2][number - self.lines_with("row")[0]]
                self.assertEqual(told, tuple(int(word) for word in good.split(" ")[1:]))
            self.check_changed(number, f"row {PRIME} {count} {receipts}", f"row {root} {count} {PRIME}",
                               f"row {root} 1000000000000001 {receipts}", f"row {'9' * 25} {count} {receipts}",
                               f"row {root} {'9' * 25} {receipts}", f"row {root} {count} {'9' * 25}",
                               f"row {root} {count}", f"row {root} {count} {receipts} 0")

    def test_rows_with_a_small_modulus(self):
        text = "\n".join(["epoch 1", "tree 1", "empty", "row {} 0 {}", "snapshot 0 1", "empty", "journal 0"])

        def loaded(root, receipts):
            return outcome(load_ledger, Sealer(11), RULES, noted(), text.format(root, receipts))

        for root, receipts in ((0, 0), (10, 0), (0, 10), (10, 10)):
            self.assertEqual(loaded(root, receipts)[0], "returned")
        for root, receipts in ((11, 0), (0, 11), (12, 5), (5, 100)):
            self.assertEqual(loaded(root, receipts), ("InvalidSave", {"line": 4}))

    def test_snapshots(self):
        first, second = self.lines_with("snapshot")
        many = self.lines[first - 1].split(" ")[2]
        for epoch in (1, 2, 5, 100):
            self.check_changed(first, f"snapshot {epoch} {many}")
        for epoch in (0, 2, 100):
            self.check_changed(second, f"snapshot {epoch} {self.lines[second - 1].split(' ')[2]}")

    def test_which_snapshots(self):
        for epochs in (1, 4, 5, 6, 8):
            lines = save_ledger(filled_ledger(epochs)).split("\n")
            numbers = [number for number, line in enumerate(lines, start=1) if line.startswith("snapshot")]
            self.assertEqual(len(numbers), min(epochs, 5))
            # Without the first one the second one is at a wrong place, and without the last one the journal is.
            self.check(numbers[0], lines[:numbers[0] - 1] + lines[(numbers + [len(lines)])[1] - 1:])
            end = [number for number, line in enumerate(lines, start=1) if line.startswith("journal")][0]
            self.check(numbers[-1], lines[:numbers[-1] - 1] + lines[end - 1:])
            # One more at the beginning or at the end.
            extra = section(f"snapshot {max(0, epochs - 5) - 1 if epochs > 5 else epochs}", None)
            self.check(numbers[0] if epochs > 5 else end,
                       lines[:numbers[0] - 1] + extra + lines[numbers[0] - 1:] if epochs > 5
                       else lines[:end - 1] + extra + lines[end - 1:])

    def test_missing_lines(self):
        """Last lines that are left out."""
        for many in range(1, len(self.lines)):
            self.check(many + 1, self.lines[:many])

    def test_one_more_line_at_the_end(self):
        many = len(self.lines)
        for line in ("", "x", "3 end", "journal 0", "step 1", self.lines[-1], "\n"):
            self.check(many + 1, self.lines + [line])
        self.check(5, ["epoch 0", "tree 1", "empty", "journal 0", ""])

    def test_sections_left_out(self):
        for number in self.heads():
            lines = self.changed(number)
            rows = self.lines_with("row")
            self.check(number + 1 if number == rows[0] else number, lines)

    def test_sections_doubled(self):
        rows, steps = self.lines_with("row"), self.lines_with("step")
        for number in self.heads():
            line = self.lines[number - 1]
            lines = self.changed(number, line, line)
            if number == 1:
                self.check(2, lines)
            elif number in rows:
                # There is one row more, where the first snapshot must be.
                self.check(rows[-1] + 1, lines)
            elif number in steps:
                self.check(number + 1, lines)
            elif line.startswith("journal"):
                self.check(number + 1, lines)
            else:
                # The second one is taken for the first line of the tree.
                self.check(number + 1, lines)

    def test_sections_put_in(self):
        for number in self.heads():
            for line in ("x", "", "row 1 1", "epochs 1", "tree", "snapshot 7 1", "end"):
                if number > 1:
                    self.check(number, [*self.lines[:number - 1], line, *self.lines[number - 1:]])
        self.check(1, ["", *self.lines])
        self.check(1, ["tree 1", "empty", *self.lines])

    def test_step_or_journal(self):
        first, second = self.lines_with("step")
        journal = self.lines_with("journal")[0]
        # Without steps, and with the second one alone.
        self.assertEqual(load("\n".join(self.lines[:first - 1] + self.lines[journal - 1:])).trail(), [])
        self.assertEqual(len(load("\n".join(self.lines[:first - 1] + self.lines[second - 1:])).trail()), 1)
        for line in ("steps 1", "Step 1", "step", "snapshot 2 1", "row 1 1 1", "tree 1", "epoch 2", "journals 0", "journal", ""):
            for number in (first, second, journal):
                self.check(number, [*self.lines[:number - 1], line, *self.lines[number - 1:]])

    def test_counts_of_lines(self):
        for number in self.heads():
            words = self.lines[number - 1].split(" ")
            if words[0] in ("epoch", "row"):
                continue
            many = int(words[-1])

            def with_count(count):
                return self.changed(number, " ".join([*words[:-1], str(count)]))

            behind = len(self.lines) - number - (1 if words[0] == "step" else 0)
            for count in (behind + 1, behind + 2, 10 ** 6, 10 ** 25 - 1):
                self.check(len(self.lines) + 1, with_count(count))
            first = number + 2 if words[0] == "step" else number + 1
            if words[0] == "journal":
                self.check(number + 1, with_count(0))
                self.check(number + many, with_count(many - 1))
                continue
            self.check(number, with_count(0))
            # Too few lines: the tree has a part missing; too many: a line is behind its last part.
            self.check(first + many - 1 if many > 1 else number, with_count(many - 1))
            self.check(first + many, with_count(many + 1))
            self.check(first + many, with_count(behind))

    def test_lines_of_trees(self):
        """The line that InvalidText tells."""
        for number in self.heads():
            words = self.lines[number - 1].split(" ")
            if words[0] not in ("tree", "snapshot", "step"):
                continue
            first = number + 2 if words[0] == "step" else number + 1
            last = first + int(words[-1]) - 1
            for line in range(first, last + 1):
                self.check_changed(line, "", "x", "Leaf", "leaf", "cut", "branch ", "leaf ann 1,1 0 0", "leaf ANN 1,1 -",
                                   "leaf ann 01,1 -", "cut 1 0 1,1 a b", "empty" if line > first else "emptyx")
            if last > first:
                self.check(last + 1, self.changed(last, "branch"))
                self.check(first + 1, self.changed(first, "leaf ann 1,1 0,0,0,0,0,0,0,0"))
                # The sides of a branch are in a wrong order.
                self.check(first, self.changed(last, "leaf 0 1,1 0,0,0,0,0,0,0,0"))

    def test_lines_of_trees_left_out_doubled_and_put_in(self):
        for number in self.heads():
            words = self.lines[number - 1].split(" ")
            if words[0] not in ("tree", "snapshot", "step"):
                continue
            first = number + 2 if words[0] == "step" else number + 1
            many = int(words[-1])
            for line in range(first, first + many):
                same = self.lines[line - 1]
                for lines in (self.changed(line), self.changed(line, same, same), self.changed(line, "branch", same),
                              self.changed(line, "x", same), self.changed(line, "leaf zzz 0,0 0,0,0,0,0,0,0,0", same)):
                    taken = "\n".join(lines[first - 1:first - 1 + many])
                    word, told = outcome(read_tree, SEALER, taken)
                    if word == "InvalidText":
                        self.check(first + told["line"] - 1, lines)
                    else:
                        # The tree is whole without its last line, which is then behind it.
                        self.check(first + many, lines)

    def test_lines_of_groups_left_out_doubled_and_put_in(self):
        for number in self.lines_with("step"):
            group = self.lines[number]
            self.check(number + 1, self.changed(number + 1))
            self.check(number + 2, self.changed(number + 1, group, group))
            self.check(number + 1, self.changed(number + 1, "x", group))
            self.check(number + 1, self.changed(number + 1, "branch", group))

    def test_parts_that_cannot_be_there(self):
        good = "1,1 0,0,0,0,0,0,0,0"
        for word in ("tree", "snapshot", "step"):
            number = self.lines_with(word)[-1]
            before = self.lines[:number - 1]
            end = number + 1 + int(self.lines[number - 1].split(" ")[-1]) + (1 if word == "step" else 0)
            behind = self.lines[end - 1:]
            head = self.lines[number - 1].rpartition(" ")[0]
            group = ["2 1 open dan 0 0 0 0 0 0 0 0 0"] if word == "step" else []
            first = number + 1 + len(group)

            def with_tree(*lines):
                return [*before, f"{head} {len(lines)}", *group, *lines, *behind]

            load("\n".join(with_tree("branch", "leaf b " + good, "branch", "leaf h " + good, "leaf i " + good)))
            for wrong in ("1,1000000000001 0,0,0,0,0,0,0,0", "1,1 -", "1,1 0,0,0,0,0,0,0", "1,1 0,0,0,0,0,0,0,0,0",
                          "1,1 0,0,0,1,0,0,0,0", "1,1 0,0,0,0,1000000000001,0,0,0", "1,1 0,0,0,0,0,2,0,0",
                          f"1,1 {2 ** 61},0,0,0,0,0,0,0", "1,1 0,0,0,0,0,0,0,1000001"):
                self.check(first + 1, with_tree("branch", "leaf b " + wrong, "branch", "leaf h " + good, "leaf i " + good))
                self.check(first + 3, with_tree("branch", "leaf b " + good, "branch", "leaf h " + wrong, "leaf i " + wrong))
                self.check(first + 4, with_tree("branch", "leaf b " + good, "branch", "leaf h " + good, "leaf i " + wrong))
                self.check(first, with_tree("leaf b " + wrong))
                # What is no tree at all is told before the parts are looked at.
                self.check(first + 4, with_tree("branch", "leaf b " + wrong, "branch", "leaf h " + good, "leaf I " + good))
            for worths, sums in (("1", "5"), ("1,1,1", "5,5,5")):
                one = f"{worths} 0,0,0,0,0,0,0,0"
                self.check(first + 1, with_tree("branch", "leaf b " + one, "leaf h " + one))
                self.check(first, with_tree("leaf b " + one))
                self.check(first + 1, with_tree("branch", f"cut 5 1 {sums} b b", "leaf h " + one))
                self.check(first, with_tree(f"cut 5 1 {sums} b b"))
            hidden = with_tree("branch", "cut 5 1 5,5 b b", "branch", "leaf h " + good, "cut 6 2 5,5 ia ib")
            if word == "step":
                load("\n".join(hidden))
            else:
                self.check(first + 1, hidden)
                self.check(first + 4, with_tree("branch", "leaf b " + good, "branch", "leaf h " + good, "cut 6 2 5,5 ia ib"))
                self.check(first, with_tree("cut 6 2 5,5 ia ib"))

    def test_groups_of_steps(self):
        for number in self.lines_with("step"):
            group = self.lines[number]
            self.check_changed(number + 1, "", group + " ", group + " 0", " " + group, group.replace("2 ", "02 ", 1), "end",
                               group.rpartition(" ")[0], group.replace("ann", "ANN"), "x", "20 " + group, "leaf")
            # The group is read before the tree.
            lines = self.changed(number + 1, "x")
            lines[number + 1] = "y"
            self.check(number + 1, lines)
            # But so many lines must be there before.
            lines[number - 1] = "step 1000"
            self.check(len(self.lines) + 1, lines)

    def test_steps_that_cannot_be_done(self):
        for number in self.lines_with("step"):
            for wrong in (burn(1, "ann", 1), burn(3, "ann", 1), burn(2, "ann", 10 ** 9), burn(2, "ann", 0), burn(2, "ann0", 1),
                          burn(2, "bob", 1), group_of(2), group_of(2, ("burn", "ann", 2, 1)),
                          Group((("burn", "ann", 0, 1),), (("ann", ((0, 1, 1),)),), 2)):
                self.check(number, self.changed(number + 1, write_group(wrong)))
                # The tree is read before the group is done.
                lines = self.changed(number + 1, write_group(wrong))
                lines[number + 1] = "y"
                self.check(number + 2, lines)

    def test_steps_and_rules(self):
        """The rules that are given count, and the epoch N."""
        text = "\n".join(self.lines)
        second = self.lines_with("step")[1]
        # With a greater fee the move cannot be done.
        self.assertEqual(outcome(load, text, Rules(2, 1000, {})), ("InvalidSave", {"line": second}))
        self.assertEqual(load(text, Rules(2, 0, {})).trail()[0], load(text).trail()[0])
        first_leaf = self.lines_with("leaf")[0]
        self.assertEqual(outcome(load, text, Rules(1, 1, {})), ("InvalidSave", {"line": first_leaf}))

    def test_lines_of_the_journal(self):
        journal = self.lines_with("journal")[0]
        for number in range(journal + 1, len(self.lines) + 1):
            line = self.lines[number - 1]
            self.check_changed(number, "", "x", line + " ", " " + line, "0" + line, "3 enx", "2 end", "end", line[:-1], "4 0 0 0",
                               "1 " + line)
            for good in ("3 end", "5 0 0 0"):
                self.assertEqual(load("\n".join(self.changed(number, good))).journal(),
                                 "\n".join(self.changed(number, good)[journal:]) + "\n")

    def test_journal_lines_left_out_and_put_in(self):
        journal = self.lines_with("journal")[0]
        for number in range(journal + 1, len(self.lines) + 1):
            self.check(len(self.lines), self.changed(number))
            self.check(len(self.lines) + 1, self.changed(number, "3 end", self.lines[number - 1]))

    def test_numbers_of_25_digits(self):
        seal = "1" + "0" * 24
        # As a number of lines, 25 digits are of a right form, so that the lines are missing.
        self.check(3, ["epoch 0", "tree " + seal])
        self.check(2, ["epoch 0", "tree " + seal + "0"])
        self.check(5, ["epoch 0", "tree 1", "empty", "journal " + seal])
        self.check(4, ["epoch 0", "tree 1", "empty", "journal " + seal + "0"])

    def test_two_errors(self):
        """The first one from the front is told."""
        numbers = self.heads()
        for first in numbers:
            for second in numbers:
                if first < second:
                    lines = self.changed(first, "x")
                    lines[second - 1] = "y"
                    self.check(first, lines)
        tree = self.lines_with("tree")[0]
        lines = self.changed(tree + 2, "x")
        lines[tree + 3] = "y"
        self.check(tree + 2, lines)
        # Lines that are missing are told before the lines that are there.
        for number in self.lines_with("tree") + self.lines_with("snapshot") + self.lines_with("journal"):
            lines = self.changed(number + 1, "x")
            lines[number - 1] = self.lines[number - 1].rpartition(" ")[0] + " 500"
            self.check(len(lines) + 1, lines)

    def test_texts_of_other_kinds(self):
        for line, lines in ((1, [""]), (1, ["", ""]), (1, ["x"]), (2, ["epoch 0"]), (2, ["epoch 0", ""]), (3, ["epoch 0", "tree 1"]),
                            (4, ["epoch 0", "tree 1", "empty"]), (4, ["epoch 0", "tree 1", "empty", ""])):
            self.check(line, lines)
        # A carriage return is no end of a line.
        self.assertEqual(outcome(load, "\r\n".join(self.lines)), ("InvalidSave", {"line": 1}))

    def test_any_line_changed_by_one_character(self):
        """Whatever is loaded is saved as the text again, and whatever is refused is refused at the line or behind it."""
        random = Random(3)
        loaded = 0
        for number in range(1, len(self.lines) + 1):
            for _ in range(12):
                line = self.lines[number - 1]
                place = random.randrange(len(line))
                new = line[:place] + random.choice("0123 ,aeb-") + line[place + random.randrange(2):]
                text = "\n".join(self.changed(number, new))
                word, found = outcome(load, text)
                if word == "returned":
                    loaded += 1
                    self.assertEqual(save_ledger(found), text)
                else:
                    self.assertEqual(word, "InvalidSave")
                    self.assertLessEqual(found["line"], len(self.lines) + 1)
        self.assertGreater(loaded, 20)


class PrunedStepTest(unittest.TestCase):
    """A step whose tree does not show what its group needs."""

    def test_not_shown(self):
        ledger = filled_ledger(1)
        group = burn(1, "ann", 1)
        lines = save_ledger(ledger).split("\n")
        journal = [number for number, line in enumerate(lines) if line.startswith("journal")][0]
        for names, good in ((["ann"], True), (["ann", "cid"], True), (["cid"], False), ([], False)):
            head, *rest = section("step", prune(SEALER, ledger.tree(), names))
            text = "\n".join([*lines[:journal], head, write_group(group), *rest, *lines[journal:]])
            word, found = outcome(load, text)
            if good:
                self.assertEqual(found.trail(), [(group, prune(SEALER, ledger.tree(), names))])
            else:
                self.assertEqual((word, found), ("InvalidSave", {"line": journal + 1}))

    def test_the_journal_is_kept_as_it_is(self):
        ledger = filled_ledger(1)
        ledger.do(burn(1, "ann", 1))
        text = ledger.journal()
        self.assertEqual(load(save_ledger(ledger)).journal(), text)
        self.assertTrue(text.endswith(end_line() + group_line(burn(1, "ann", 1))))


if __name__ == "__main__":
    unittest.main()
