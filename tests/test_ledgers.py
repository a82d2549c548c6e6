import unittest

from sumgrove.checking import answer
from sumgrove.copies import Copy
from sumgrove.deeds import Group, Rules, group_names
from sumgrove.epochs import check_growth
from sumgrove.groups import do_group
from sumgrove.journals import end_line, group_line
from sumgrove.ledgers import Ledger, restart
from sumgrove.pruning import prune, prune_for
from sumgrove.questions import ask
from sumgrove.refusals import InvalidNotes, TooManyEpochs
from sumgrove.trails import Receipts, check_receipt, check_trail, step_of
from sumgrove.trees import build, leaves_of, root_of
from tests.helper import PRIME, SEALER, leaf, lock, locked, noted, outcome, refused, signed
from tests.test_questions import right_answer, some_questions

RULES = Rules(2, 1, {(0, 1): (1, 1)})
EMPTY_ROOT = root_of(SEALER, None)
MINT = leaf("mint", (0, 0), noted())


def group_of(epoch, *deeds, signatures=()):
    return Group(deeds, signatures, epoch)


def opening(epoch=0):
    """A group that opens accounts and gives them money."""
    return group_of(epoch, *[("open", name, noted()) for name in ("ann", "bank", "bob", "cid")],
                    ("mint", "ann", 0, 50), ("mint", "ann", 1, 20), ("mint", "bob", 0, 30), ("mint", "bank", 1, 9))


def burn(epoch, name, amount):
    return group_of(epoch, ("burn", name, 0, amount))


def new_ledger(notes=noted()):
    return Ledger(SEALER, RULES, notes)


def filled_ledger(epochs=0):
    """A ledger with accounts and, in each of its epochs, some groups; none yet in the present one."""
    ledger = new_ledger()
    for epoch in range(epochs):
        ledger.do(opening() if epoch == 0 else burn(epoch, "ann", epoch))
        for _ in range(epoch % 3):
            ledger.do(burn(epoch, "bob", 1))
        ledger.end_epoch()
    return ledger


def state_of(ledger):
    """All that a ledger tells of itself."""
    receipts = ledger.receipts()
    chronicle, shelf = ledger.chronicle(), ledger.shelf()
    return (ledger.parts(), ledger.root(), ledger.tree(), ledger.epoch(), ledger.journal(), ledger.trail(),
            receipts.root(), [receipts.show(number) for number in range(len(ledger.trail()))],
            chronicle.length(), chronicle.top(), chronicle.tree(), shelf.kept(),
            [outcome(shelf.snapshot, epoch) for epoch in range(chronicle.length() + 1)])


class NewLedgerTest(unittest.TestCase):
    """Point 165."""

    def test_parts(self):
        for notes in (noted(), locked(1, 2, need=2, limit=5, hold=(1, 3, 4))):
            ledger = new_ledger(notes)
            tree = leaf("mint", (0, 0), notes)
            self.assertEqual((ledger.tree(), ledger.root(), ledger.epoch()), (tree, root_of(SEALER, tree), 0))
            self.assertEqual((ledger.chronicle().length(), ledger.chronicle().top()), (0, EMPTY_ROOT))
            self.assertEqual(ledger.shelf().kept(), [])
            self.assertEqual((ledger.journal(), ledger.trail()), ("", []))
            self.assertEqual(ledger.receipts().root(), EMPTY_ROOT)
            self.assertEqual(ledger.parts(), (tree, 0, [], [], [], ""))

    def test_kinds(self):
        for kinds in (1, 2, 3):
            self.assertEqual(Ledger(SEALER, Rules(kinds, 0, {}), noted()).tree(), leaf("mint", (0,) * kinds, noted()))

    def test_invalid_notes(self):
        good = [PRIME, 5, 1, 3, 10 ** 12, 1, 10 ** 12, 10 ** 6]
        new_ledger(tuple(good))
        for place, wrong in ((0, -1), (0, PRIME + 1), (1, -1), (1, PRIME + 1), (2, 0), (2, -1), (2, PRIME + 1), (3, -1),
                             (3, 4), (4, -1), (4, 10 ** 12 + 1), (5, -1), (5, 2), (6, -1), (6, 10 ** 12 + 1), (7, -1),
                             (7, 10 ** 6 + 1)):
            notes = (*good[:place], wrong, *good[place + 1:])
            with self.assertRaises(InvalidNotes):
                new_ledger(notes)
            with self.assertRaises(InvalidNotes):
                restart(SEALER, RULES, notes, "")
        for notes in ((), (0,) * 7, (0,) * 9):
            with self.assertRaises(InvalidNotes):
                new_ledger(notes)
        with self.assertRaises(InvalidNotes):
            Ledger(SEALER, Rules(1, 0, {}), tuple(good))


class DoTest(unittest.TestCase):
    """Point 166."""

    def test_groups_that_are_done(self):
        ledger = new_ledger()
        tree = MINT
        journal = ""
        groups = [opening(), burn(0, "ann", 3), group_of(0, ("move", "ann", "cid", 0, 5), ("close", "mint")),
                  group_of(0, ("change", "ann", 0, 1, 2))]
        for group in groups:
            tree = do_group(SEALER, RULES, 0, tree, group)
            journal += group_line(group)
            self.assertEqual(ledger.do(group), root_of(SEALER, tree))
            self.assertEqual((ledger.tree(), ledger.root(), ledger.journal()), (tree, root_of(SEALER, tree), journal))
        self.assertEqual(ledger.epoch(), 0)

    def test_groups_that_are_refused(self):
        ledger = filled_ledger(1)
        before = state_of(ledger)
        for group, told in (
            (burn(1, "ann", 51), refused(0, "short")), (burn(0, "ann", 1), refused(-1, "epoch")),
            (burn(2, "ann", 1), refused(-1, "epoch")), (burn(1, "zoe", 1), refused(0, "unknown")),
            (group_of(1, ("burn", "ann", 0, 1), ("close", "bob")), refused(1, "money")),
            (group_of(1, ("burn", "ann", 0, 1), signatures=(signed("ann", 3),)), refused(-1, "key")),
            (burn(1, "ann", 0), ("InvalidGroup", {"index_of_deed": 0})),
            (group_of(1, ("burn", "ann", 0, 1), ("burn", "ann", 2, 1)), ("InvalidGroup", {"index_of_deed": 1})),
            (group_of(1), ("InvalidGroup", {"index_of_deed": -1})),
            (burn(-1, "ann", 1), ("InvalidGroup", {"index_of_deed": -1})),
            # Both errors are due: the form comes first.
            (group_of(0, ("burn", "zoe", 0, 1), ("what",)), ("InvalidGroup", {"index_of_deed": 1})),
        ):
            self.assertEqual(outcome(ledger.do, group), told)
            self.assertEqual(state_of(ledger), before)

    def test_batches(self):
        ledger, other = filled_ledger(1), filled_ledger(1)
        groups = [burn(1, "ann", 40), burn(1, "ann", 40), burn(1, "ann", 0), burn(1, "bob", 1), group_of(1), burn(0, "bob", 1),
                  group_of(1, ("burn", "bob", 0, 1), ("burn", "bob", 0, 0)), group_of(1, ("burn", "bob", 0, 1)),
                  group_of(1, ("burn", "bob", 0, 1), ("burn", "bob", 0, 28)), burn(1, "bob", 28)]
        told = [None, (0, "short"), (0, "form"), None, (-1, "form"), (-1, "epoch"), (1, "form"), None, (1, "short"), None]
        self.assertEqual(ledger.do_batch(groups), told)
        for group, one in zip(groups, told):
            if one is None:
                other.do(group)
        self.assertEqual(state_of(ledger), state_of(other))
        self.assertEqual(len(ledger.trail()), 4)
        self.assertEqual(ledger.do_batch([]), [])
        self.assertEqual(state_of(ledger), state_of(other))

    def test_lists_of_a_batch(self):
        ledger = filled_ledger(1)
        groups = [burn(1, "ann", 1), burn(1, "ann", 0)]
        kept = list(groups)
        ledger.do_batch(groups)
        self.assertEqual(groups, kept)
        groups.clear()
        self.assertEqual([group for group, _ in ledger.trail()], kept[:1])


class EpochTest(unittest.TestCase):
    """Point 167."""

    def test_ends_of_epochs(self):
        ledger = new_ledger()
        roots, counts, receipts_roots, trees, journal = [], [], [], [], ""
        for epoch in range(9):
            groups = [opening()] if epoch == 0 else [burn(epoch, "ann", number + 1) for number in range(epoch % 3)]
            receipts = Receipts(SEALER)
            before = ledger.root()
            for group in groups:
                receipts.add(group, ledger.do(group))
                journal += group_line(group)
            trail = ledger.trail()
            self.assertEqual([group for group, _ in trail], groups)
            self.assertEqual(ledger.receipts().root(), receipts.root())
            ends = check_trail(SEALER, RULES, epoch, before, trail)
            self.assertEqual(ends, (ledger.root(), receipts.root()))
            roots.append(ledger.root())
            counts.append(len(groups))
            receipts_roots.append(receipts.root())
            trees.append(ledger.tree())
            journal += end_line()
            self.assertEqual(ledger.end_epoch(), epoch)
            self.assertEqual((ledger.epoch(), ledger.journal(), ledger.trail()), (epoch + 1, journal, []))
            self.assertEqual((ledger.receipts().root(), ledger.root()), (EMPTY_ROOT, roots[-1]))
            self.check_chronicle(ledger, roots, counts, receipts_roots)
            self.check_shelf(ledger.shelf(), trees)

    def check_chronicle(self, ledger, roots, counts, receipts_roots):
        chronicle = ledger.chronicle()
        rows = list(zip(roots, counts, receipts_roots))
        self.assertEqual(chronicle.length(), len(rows))
        self.assertEqual(chronicle.tree(), build([leaf(f"e{epoch}", (count,), (root, receipts_root))
                                                  for epoch, (root, count, receipts_root) in enumerate(rows)]))
        self.assertEqual(ledger.parts()[2], rows)

    def check_shelf(self, shelf, trees):
        first = max(0, len(trees) - 5)
        self.assertEqual(shelf.kept(), list(range(first, len(trees))))
        for epoch, tree in enumerate(trees):
            told = ("returned", tree) if epoch >= first else ("CutOff", {"epoch": epoch})
            self.assertEqual(outcome(shelf.snapshot, epoch), told)
        self.assertEqual(outcome(shelf.snapshot, len(trees)), ("NoSuchEpoch", {"epoch": len(trees)}))

    def test_receipts_show_what_was_done(self):
        ledger = filled_ledger(1)
        groups = [burn(1, "ann", number + 1) for number in range(4)]
        roots = [ledger.do(group) for group in groups]
        receipts = ledger.receipts()
        ledger.end_epoch()
        for number, group in enumerate(groups):
            self.assertTrue(check_receipt(SEALER, ledger.chronicle().receipts_of(1), number, group, roots[number],
                                          receipts.show(number)))

    def test_growth(self):
        ledger = filled_ledger(4)
        old_top = ledger.chronicle().top()
        ledger.end_epoch()
        ledger.end_epoch()
        chronicle = ledger.chronicle()
        self.assertTrue(check_growth(SEALER, old_top, 4, chronicle.top(), 6, chronicle.growth(4)))

    def test_the_objects_themselves(self):
        ledger = filled_ledger(2)
        for method in (ledger.chronicle, ledger.shelf, ledger.receipts):
            self.assertIs(method(), method())
        chronicle, shelf, receipts = ledger.chronicle(), ledger.shelf(), ledger.receipts()
        root = ledger.do(burn(2, "ann", 1))
        self.assertEqual(outcome(receipts.show, 0)[0], "returned")
        told = receipts.root()
        ledger.end_epoch()
        self.assertEqual((chronicle.root_of(2), shelf.kept()), (root, [0, 1, 2]))
        # The receipts of the epoch that ended stay as they were.
        self.assertEqual((receipts.root(), chronicle.receipts_of(2)), (told, told))
        self.assertEqual(ledger.receipts().root(), EMPTY_ROOT)

    def test_a_thousand_epochs(self):
        ledger = new_ledger()
        ledger.do(opening())
        for epoch in range(1000):
            if epoch % 100 == 5:
                ledger.do(burn(epoch, "ann", 1))
            self.assertEqual(ledger.end_epoch(), epoch)
        self.assertEqual((ledger.epoch(), ledger.chronicle().length()), (1000, 1000))
        self.assertEqual(ledger.shelf().kept(), [995, 996, 997, 998, 999])
        ledger.do(burn(1000, "ann", 2))
        before = state_of(ledger)
        with self.assertRaises(TooManyEpochs):
            ledger.end_epoch()
        self.assertEqual(state_of(ledger), before)
        self.assertEqual(ledger.worth("ann", 0), 38)
        ledger.do(burn(1000, "ann", 3))
        self.assertEqual((ledger.worth("ann", 0), len(ledger.trail())), (35, 2))
        self.assertEqual(outcome(ledger.do, burn(1001, "ann", 1)), refused(-1, "epoch"))
        self.check_restart_and_take_over(ledger)

    def check_restart_and_take_over(self, ledger):
        text = ledger.journal()
        again = restart(SEALER, RULES, noted(), text)
        self.assertEqual(state_of(again), state_of(ledger))
        # An end of the 1001st epoch, and all behind it, is left out.
        more = group_line(burn(1000, "ann", 1))
        again = restart(SEALER, RULES, noted(), text + end_line() + more)
        self.assertEqual(state_of(again), state_of(ledger))
        other = new_ledger()
        other.take_over(ledger.parts())
        self.assertEqual(state_of(other), state_of(ledger))


class RestartTest(unittest.TestCase):
    """Point 168."""

    def rows(self):
        """The lines of a journal, and the states of the ledger before and after each line."""
        ledger = new_ledger()
        rows, states = [], [state_of(ledger)]
        for group in (opening(), burn(0, "ann", 1), None, burn(1, "bob", 2), None, None, burn(3, "ann", 3),
                      group_of(3, ("rule", "bob", locked(5))), None):
            if group is None:
                ledger.end_epoch()
            else:
                ledger.do(group)
            rows.append(end_line() if group is None else group_line(group))
            states.append(state_of(ledger))
        return rows, states

    def test_cut_at_each_place(self):
        rows, states = self.rows()
        text = "".join(rows)
        ends = [len("".join(rows[:many])) for many in range(len(rows) + 1)]
        for place in range(len(text) + 1):
            many = len([end for end in ends if end <= place]) - 1
            self.assertEqual(state_of(restart(SEALER, RULES, noted(), text[:place])), states[many])

    def test_lines_that_end_the_restart(self):
        rows, states = self.rows()
        for many in range(len(rows) + 1):
            epoch = rows[:many].count(end_line())
            before, behind = "".join(rows[:many]), "".join(rows[many:])
            for line in (group_line(burn(epoch, "ann", 10 ** 9)), group_line(burn(epoch + 1, "ann", 1)),
                         group_line(burn(epoch, "zoe", 1)), group_line(burn(epoch, "ann", 0)), group_line(group_of(epoch)),
                         group_line(burn(epoch, "ann", 10 ** 13)), "4 end\n", "3 enn\n", "\n", "end\n", "3 end",
                         group_line(group_of(epoch, ("open", "eve", noted(need=1)))), "5 0 0 x\n"):
                ledger = restart(SEALER, RULES, noted(), before + line + behind)
                self.assertEqual(state_of(ledger), states[many], line)
                self.assertEqual(ledger.journal(), before)

    def test_empty_text(self):
        self.assertEqual(state_of(restart(SEALER, RULES, noted(), "")), state_of(new_ledger()))
        self.assertEqual(restart(SEALER, RULES, locked(5), "").tree(), leaf("mint", (0, 0), locked(5)))

    def test_other_notes_and_rules(self):
        rows, _ = self.rows()
        # With a lock on the account of mint nothing of the first group is done.
        self.assertEqual(restart(SEALER, RULES, locked(5), "".join(rows)).journal(), "")
        self.assertEqual(restart(SEALER, Rules(1, 0, {}), noted(), "".join(rows)).journal(), "")
        self.assertEqual(restart(SEALER, Rules(3, 0, {}), noted(), "".join(rows)).journal(), "".join(rows))

    def test_going_on(self):
        ledger = filled_ledger(7)
        ledger.do(burn(7, "ann", 1))
        again = restart(SEALER, RULES, noted(), ledger.journal())
        for one in (ledger, again):
            one.do(burn(7, "bob", 1))
            one.end_epoch()
        self.assertEqual(state_of(ledger), state_of(again))


class ShowTest(unittest.TestCase):
    """Point 169 and the second item of point 3."""

    def ledgers(self):
        empty = new_ledger()
        empty.do(group_of(0, ("close", "mint")))
        return [new_ledger(), empty, filled_ledger(1), filled_ledger(6)]

    def test_all_questions(self):
        for ledger in self.ledgers():
            leaves = leaves_of(ledger.tree())
            words = set()
            for question in some_questions(["a", "ann", "ann0", "bank", "bob", "c", "cid", "mint", "z"]):
                expected = right_answer(leaves, question)
                shown = ledger.show(question)
                self.assertEqual(shown, prune_for(SEALER, ledger.tree(), question))
                self.assertEqual(answer(SEALER, ledger.root(), shown, question), expected)
                self.assertEqual(ledger.answer(question), expected)
                self.assertEqual(ask(SEALER, ledger.tree(), question), expected)
                words.add(question[0])
            self.assertEqual(words, {"leaf", "several", "count", "total", "range", "rank", "place", "next"})

    def test_names(self):
        for ledger in self.ledgers():
            for names in ([], ["ann"], ["bank", "zoe"], ["mint", "cid", "ann"]):
                kept = list(names)
                self.assertEqual(ledger.show_names(names), prune(SEALER, ledger.tree(), names))
                self.assertEqual(names, kept)

    def test_doing_groups_with_what_is_shown(self):
        ledger = filled_ledger(1)
        for group in (burn(1, "ann", 1), group_of(1, ("move", "ann", "cid", 0, 4)), group_of(1, ("open", "eve", noted())),
                      group_of(1, ("mint", "eve", 1, 7), ("change", "ann", 0, 1, 3)), group_of(1, ("close", "mint"))):
            names = group_names(RULES, group)
            shown = ledger.show_names(names)
            self.assertEqual(shown, step_of(SEALER, RULES, ledger.tree(), group))
            copy = Copy(SEALER, RULES, ledger.epoch(), ledger.root(), shown)
            self.assertEqual(copy.do(group), ledger.do(group))

    def test_worth_and_total(self):
        ledger = filled_ledger(1)
        for name, worths in (("ann", (50, 20)), ("bank", (0, 9)), ("bob", (30, 0)), ("cid", (0, 0)), ("mint", (0, 0))):
            for kind in (0, 1):
                self.assertEqual(ledger.worth(name, kind), worths[kind])
        for name in ("a", "ann0", "zoe"):
            for kind in (0, 1):
                self.assertEqual(outcome(ledger.worth, name, kind), ("NoAccount", {"name": name}))
        self.assertEqual((ledger.total(0), ledger.total(1)), (80, 29))

    def test_a_ledger_without_accounts(self):
        ledger = self.ledgers()[1]
        self.assertIsNone(ledger.tree())
        self.assertEqual((ledger.total(0), ledger.total(1), ledger.root()), (0, 0, EMPTY_ROOT))
        self.assertEqual(outcome(ledger.worth, "mint", 0), ("NoAccount", {"name": "mint"}))
        self.assertIsNone(ledger.show_names(["mint"]))
        ledger.end_epoch()
        self.assertEqual((ledger.chronicle().root_of(0), ledger.shelf().snapshot(0)), (EMPTY_ROOT, None))
        ledger.do(group_of(1, ("open", "ann", noted())))
        self.assertEqual(ledger.worth("ann", 1), 0)


class PartsTest(unittest.TestCase):
    """The interface of Ledger: parts, take_over, and lists that are passed and returned; point 5."""

    def busy_ledger(self, epochs=7):
        ledger = filled_ledger(epochs)
        ledger.do_batch([opening()] if epochs == 0 else [burn(epochs, "ann", 1), burn(epochs, "bob", 2)])
        return ledger

    def test_parts(self):
        ledger = self.busy_ledger()
        chronicle, shelf = ledger.chronicle(), ledger.shelf()
        tree, epoch, rows, snapshots, trail, journal = ledger.parts()
        self.assertIsInstance(ledger.parts(), tuple)
        self.assertEqual((tree, epoch, journal), (ledger.tree(), 7, ledger.journal()))
        self.assertEqual(rows, [(chronicle.root_of(number), chronicle.count_of(number), chronicle.receipts_of(number))
                                for number in range(7)])
        self.assertEqual(snapshots, [(number, shelf.snapshot(number)) for number in (2, 3, 4, 5, 6)])
        self.assertEqual(trail, ledger.trail())
        self.assertEqual([group for group, _ in trail], [burn(7, "ann", 1), burn(7, "bob", 2)])
        for group, step in trail:
            self.assertEqual(len(leaves_of(step)), 1)
            self.assertEqual([leaf[1] for leaf in leaves_of(step)], group_names(RULES, group))

    def test_take_over(self):
        for epochs in (0, 1, 4, 5, 6, 8):
            ledger = self.busy_ledger(epochs)
            for other in (new_ledger(), self.busy_ledger(3), self.busy_ledger(9), Ledger(SEALER, RULES, locked(5))):
                self.assertIsNone(other.take_over(ledger.parts()))
                self.assertEqual(state_of(other), state_of(ledger))
                other.do(burn(epochs, "ann", 4))
                other.end_epoch()
                self.assertEqual(other.chronicle().count_of(epochs), len(ledger.trail()) + 1)
                self.assertEqual(state_of(ledger), state_of(self.busy_ledger(epochs)))

    def test_take_over_of_the_own_parts(self):
        ledger = self.busy_ledger()
        before = state_of(ledger)
        ledger.take_over(ledger.parts())
        self.assertEqual(state_of(ledger), before)

    def test_new_objects(self):
        ledger, other = self.busy_ledger(), self.busy_ledger(3)
        old = (other.chronicle(), other.shelf(), other.receipts())
        told = (old[0].top(), old[1].kept(), old[2].root())
        other.take_over(ledger.parts())
        for own, theirs, former in zip((other.chronicle(), other.shelf(), other.receipts()),
                                       (ledger.chronicle(), ledger.shelf(), ledger.receipts()), old):
            self.assertIsNot(own, theirs)
            self.assertIsNot(own, former)
        self.assertEqual((old[0].top(), old[1].kept(), old[2].root()), told)

    def test_receipts_are_those_of_the_steps(self):
        """For each step, the group and the root of the tree of the step after the group."""
        ledger = filled_ledger(1)
        one, other = burn(1, "ann", 1), burn(1, "bob", 2)
        steps = [(other, ledger.tree()), (one, ledger.show_names(["ann"]))]
        tree, epoch, rows, snapshots, _, journal = ledger.parts()
        ledger.take_over((tree, epoch, rows, snapshots, steps, journal))
        receipts = Receipts(SEALER)
        for group, step in steps:
            receipts.add(group, root_of(SEALER, do_group(SEALER, RULES, 1, step, group)))
        self.assertEqual(ledger.receipts().root(), receipts.root())
        self.assertEqual(ledger.trail(), steps)
        self.assertEqual(ledger.tree(), tree)

    def test_what_is_returned_can_be_changed(self):
        ledger = self.busy_ledger()
        before = state_of(ledger)
        for found in (ledger.trail(), *[part for part in ledger.parts() if isinstance(part, list)]):
            found.reverse()
            found.append(found[0])
            found.pop(1)
            self.assertEqual(state_of(ledger), before)
        ledger.chronicle().growth(0)
        ledger.shelf().kept().clear()
        self.assertEqual(state_of(ledger), before)

    def test_what_is_taken_over_can_be_changed(self):
        ledger, other = self.busy_ledger(), new_ledger()
        parts = ledger.parts()
        other.take_over(parts)
        for part in parts:
            if isinstance(part, list):
                part.reverse()
                part.append(5)
                part.pop(0)
        self.assertEqual(state_of(other), state_of(ledger))
        parts = ledger.parts()
        other.take_over(parts)
        other.do(burn(7, "ann", 1))
        other.end_epoch()
        self.assertEqual(parts, ledger.parts())

    def test_batch_results_can_be_changed(self):
        ledger = self.busy_ledger()
        before = state_of(ledger)
        ledger.do_batch([burn(7, "ann", 0)]).clear()
        self.assertEqual(state_of(ledger), before)

    def test_errors_change_nothing(self):
        ledger = self.busy_ledger()
        before = state_of(ledger)
        outcome(ledger.worth, "zoe", 0)
        outcome(ledger.do, burn(7, "ann", 10 ** 9))
        outcome(ledger.do, burn(7, "ann", 0))
        outcome(ledger.receipts().show, 99)
        outcome(ledger.chronicle().show, [99])
        outcome(ledger.shelf().snapshot, 0)
        self.assertEqual(state_of(ledger), before)

    def test_ledgers_share_nothing(self):
        one, other = new_ledger(), new_ledger()
        one.do(opening())
        one.end_epoch()
        self.assertEqual(state_of(other), state_of(new_ledger()))


class LocksTest(unittest.TestCase):
    """Signatures in a ledger: the next locks are those of the accounts afterwards."""

    def test_signed_groups(self):
        ledger = new_ledger(locked(444))
        mint = group_of(0, ("open", "ann", noted()), ("mint", "ann", 0, 5), signatures=(("mint", ((0, 444, lock(445)),)),))
        self.assertEqual(outcome(ledger.do, group_of(0, *mint.deeds)), refused(1, "unsigned"))
        ledger.do(mint)
        self.assertEqual(ledger.answer(("leaf", "mint")), ((0, 0), locked(445)))
        again = Group(mint.deeds[1:], mint.signatures, 0)
        self.assertEqual(outcome(ledger.do, again), refused(-1, "key"))
        self.assertEqual(state_of(restart(SEALER, RULES, locked(444), ledger.journal())), state_of(ledger))


if __name__ == "__main__":
    unittest.main()
