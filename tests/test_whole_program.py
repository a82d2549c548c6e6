"""Point 5 over the whole program: what is passed stays, lists and dicts are copied, and errors change nothing."""

import unittest
from copy import deepcopy

from sumgrove.auditors import Auditor
from sumgrove.books import do_all, join_books
from sumgrove.changes import change_paper, check_change
from sumgrove.collisions import search_collision
from sumgrove.copies import Copy
from sumgrove.deeds import Rules, check_group, group_names
from sumgrove.epochs import Chronicle, Shelf
from sumgrove.houses import House
from sumgrove.journals import read_lines, write_group
from sumgrove.ledgers import Ledger, restart
from sumgrove.pruning import prune
from sumgrove.saving import load_ledger, save_ledger
from sumgrove.trails import Receipts, check_trail, mark_of_group
from sumgrove.trees import build, leaves_of, root_of
from sumgrove.wallets import Wallet
from sumgrove.watchers import Watcher, audit, report_of
from tests.helper import SEALER, accounts, leaf, locked, noted, outcome, signed
from tests.test_ledgers import RULES, burn, filled_ledger, group_of, new_ledger, state_of
from tests.test_watchers import Course
from tests.test_watchers import state_of as state_of_watcher

TREE = accounts(ann=(10, 10), bank=(90, 90), bob=(5, 5), mint=(0, 0))
EPOCH = 3
GROUPS = [burn(EPOCH, "ann", 1), group_of(EPOCH, ("move", "ann", "bob", 0, 2)), burn(EPOCH, "bob", 3)]


def plain(value):
    """A copy of a value with its objects replaced by what is in them, so that it can be compared later."""
    if hasattr(value, "__dict__"):
        return (value.__class__.__name__, plain(vars(value)))
    if isinstance(value, dict):
        return {key: plain(item) for key, item in value.items()}
    if isinstance(value, (list, tuple)):
        return value.__class__([plain(item) for item in value])
    return value


def scramble(value):
    """Change all lists and dicts in a value, also those inside of tuples, lists and dicts."""
    if isinstance(value, (list, tuple)):
        for item in value:
            scramble(item)
    if isinstance(value, dict):
        for item in value.values():
            scramble(item)
        value.clear()
    if isinstance(value, list):
        value.reverse()
        value.append("changed")


class ArgumentsTest(unittest.TestCase):
    """Functions with lists, dicts or objects as arguments leave them as they were, also if they raise an error."""

    def check(self, function, *arguments):
        kept = plain(arguments)
        found = outcome(function, *arguments)
        self.assertEqual(plain(arguments), kept)
        # What is returned is new: changing it changes no argument.
        scramble(found[1])
        self.assertEqual(plain(arguments), kept)

    def test_trees_and_collisions(self):
        self.check(build, [leaf("b"), leaf("a"), leaf("c")])
        self.check(prune, SEALER, TREE, ["bob", "ann", "zoe"])
        self.check(leaves_of, TREE)
        self.check(search_collision, SEALER, [(5,), (4,), (5,)])

    def test_books(self):
        for groups in (GROUPS, GROUPS + [burn(EPOCH, "zoe", 1)], [burn(EPOCH, "ann", 0)]):
            self.check(do_all, SEALER, RULES, EPOCH, TREE, groups)
            self.check(join_books, SEALER, RULES, EPOCH, TREE, groups, list(groups))
            self.check(join_books, SEALER, RULES, EPOCH, TREE, [], groups)

    def test_groups(self):
        group = group_of(EPOCH, ("open", "eve", noted()), signatures=(signed("ann", 1),))
        self.check(check_group, SEALER, RULES, group)
        self.check(group_names, RULES, group)
        self.check(write_group, group)
        self.check(mark_of_group, SEALER, group)

    def test_trails(self):
        trail = [(GROUPS[0], prune(SEALER, TREE, ["ann"]))]
        self.check(check_trail, SEALER, RULES, EPOCH, root_of(SEALER, TREE), trail)
        self.check(check_trail, SEALER, RULES, EPOCH, 5, trail)
        self.check(check_trail, SEALER, RULES, EPOCH, root_of(SEALER, TREE), [])

    def test_changes(self):
        self.check(change_paper, SEALER, TREE, build([]))
        self.check(check_change, SEALER, root_of(SEALER, TREE), root_of(SEALER, TREE), (TREE, TREE))

    def test_ledgers_and_reports(self):
        ledger, house = filled_ledger(2), House(SEALER, 5, 9)
        trail = [(GROUPS[0], TREE)]
        before = state_of(ledger)
        report = report_of(ledger, house, trail)
        self.assertEqual((state_of(ledger), trail), (before, [(GROUPS[0], TREE)]))
        scramble(report)
        self.assertEqual((state_of(ledger), trail), (before, [(GROUPS[0], TREE)]))
        text = save_ledger(ledger)
        load_ledger(SEALER, RULES, noted(), text)
        restart(SEALER, RULES, noted(), ledger.journal())
        self.assertEqual(state_of(ledger), before)

    def test_read_lines(self):
        text = filled_ledger(2).journal()
        found = read_lines(text)
        scramble(found)
        self.assertNotEqual(read_lines(text), found)


class ObjectsTest(unittest.TestCase):
    """Lists and dicts that an object was given or has returned are changed afterwards: the object stays as it is."""

    def check(self, state, *values):
        """No change of a value that the object took or gave changes the state of the object."""
        before = deepcopy(state())
        for value in values:
            scramble(value)
            self.assertEqual(state(), before)

    def test_rules(self):
        rates = {(0, 1): (1, 2)}
        rules = Rules(2, 0, rates)
        self.check(lambda: rules.rates, rates)

    def test_chronicle_and_shelf(self):
        chronicle = Chronicle(SEALER)
        chronicle.add(1, 2, 3)
        epochs = [0]
        chronicle.show(epochs)
        self.assertEqual(epochs, [0])
        self.check(lambda: (chronicle.tree(), chronicle.length()), epochs)
        shelf = Shelf(3)
        rows = [(1, TREE), (2, None)]
        shelf.keep_all(rows, 3)
        self.check(lambda: ([shelf.snapshot(epoch) for epoch in shelf.kept()], shelf.kept()), rows, shelf.kept())

    def test_copy(self):
        copy = Copy(SEALER, RULES, EPOCH, root_of(SEALER, TREE), TREE)
        names = ["ann"]
        copy.forget(names)
        self.assertEqual(names, ["ann"])
        self.check(lambda: (copy.tree(), copy.root()), names)

    def test_auditor(self):
        house = House(SEALER, 5, 3)
        marks = list(house.marks())
        auditor, other = Auditor(SEALER, marks), Auditor(SEALER, house.marks())
        auditor.hear(house.card(1), house.sign_again(1, 7))
        other.hear(house.card(1), house.sign_again(1, 8))
        self.check(lambda: (auditor.kept(), auditor.heard(1), auditor.meet(other)), marks, auditor.kept(), auditor.meet(other))
        self.assertIsNone(auditor.hear(house.card(2), house.sign_again(2, 9)))

    def test_receipts(self):
        receipts = Receipts(SEALER)
        receipts.add(GROUPS[0], 5)
        self.check(lambda: (receipts.root(), receipts.show(0)), receipts.show(0))

    def test_ledger(self):
        ledger = filled_ledger(6)
        groups, names = [burn(6, "ann", 1), burn(6, "ann", 0)], ["ann", "zoe"]
        told = ledger.do_batch(groups)
        self.assertEqual(groups, [burn(6, "ann", 1), burn(6, "ann", 0)])
        shown = ledger.show_names(names)
        self.assertEqual(names, ["ann", "zoe"])
        self.check(lambda: state_of(ledger), groups, told, names, shown, ledger.parts(), ledger.trail(),
                   ledger.shelf().kept(), ledger.answer(("total",)))

    def test_what_a_ledger_takes_over(self):
        ledger, other = filled_ledger(6), new_ledger()
        ledger.do(burn(6, "ann", 1))
        parts = ledger.parts()
        kept = deepcopy(parts)
        other.take_over(parts)
        self.assertEqual(parts, kept)
        self.check(lambda: state_of(other), parts)
        self.assertEqual(state_of(other), state_of(ledger))

    def test_wallet(self):
        wallet = Wallet(SEALER, 5)
        places = [0, 2]
        wallet.notes_for(1, places, 0, (0, 0, 0))
        wallet.remember("ann")
        self.assertEqual(places, [0, 2])
        self.check(lambda: (wallet.names(), wallet.all_keys("ann")), places, wallet.names())
        wallet.remember("bob")
        self.assertEqual(wallet.all_keys("bob"), wallet.all_keys("ann"))

    def test_watcher(self):
        course = Course(2)
        report = deepcopy(course.report)
        marks = list(course.house.marks())
        watcher = Watcher(SEALER, RULES, marks, new_ledger().root())
        self.check(lambda: state_of_watcher(watcher), marks)
        course.watcher.take(*course.report)
        self.assertEqual(course.report, report)
        self.check(lambda: state_of_watcher(course.watcher), course.report, course.watcher.auditor().kept(),
                   audit(course.watcher, course.watcher))


class ErrorsTest(unittest.TestCase):
    """After an error nothing has changed."""

    def check(self, state, *calls):
        before = deepcopy(state())
        for function, *arguments in calls:
            word, _ = outcome(function, *arguments)
            self.assertNotEqual(word, "returned", (function, arguments))
            self.assertEqual(state(), before)

    def test_ledger(self):
        ledger = filled_ledger(2)
        self.check(lambda: state_of(ledger), (ledger.do, burn(2, "ann", 10 ** 9)), (ledger.do, burn(2, "ann", 0)),
                   (ledger.do, burn(1, "ann", 1)), (ledger.worth, "zoe", 0), (ledger.receipts().show, 0),
                   (ledger.chronicle().root_of, 5), (ledger.chronicle().growth, 3), (ledger.shelf().keep, 0, None))

    def test_wallet(self):
        wallet = Wallet(SEALER, 5)
        wallet.add("ann", (1, None, None))

        def state():
            other = deepcopy(wallet)
            return (other.names(), other.all_keys("ann"), other.fresh(), outcome(other.remember, "ann"))

        self.check(state, (wallet.remember, "ann"), (wallet.sign, "ann", 2), (wallet.sign, "zoe", 0), (wallet.all_keys, "b"))

    def test_house_and_auditor(self):
        house = House(SEALER, 5, 3)
        house.sign(1, 7)
        auditor = Auditor(SEALER, house.marks())
        auditor.hear(house.card(1), house.sign(1, 7))

        def state():
            other = deepcopy(house)
            return (other.sign(1, 7), outcome(other.sign, 1, 8), other.sign(2, 8), auditor.kept())

        self.check(state, (house.sign, 1, 8), (house.sign, 2, -1), (house.sign_again, 4, 1), (house.card, 4),
                   (auditor.hear, house.card(2), house.sign_again(1, 8)), (auditor.hear, (), ()))

    def test_watcher(self):
        course = Course(2)
        card, statement, trail, growth = course.report
        self.check(lambda: state_of_watcher(course.watcher),
                   (course.watcher.take, (), statement, trail, growth), (course.watcher.take, card, statement, [], growth),
                   (course.watcher.take, card, statement, trail[::-1], growth),
                   (course.watcher.take, card, statement, trail, None))

    def test_report_of(self):
        """What raises an error signs nothing."""
        house = House(SEALER, 5, 3)
        outcome(report_of, new_ledger(), house, [])
        self.assertEqual(house.sign(0, 7)[:2], (0, 7))

    def test_new_ledgers(self):
        for wrong in (noted(need=1), locked(1)[:7]):
            self.assertEqual(outcome(Ledger, SEALER, RULES, wrong)[0], "InvalidNotes")


if __name__ == "__main__":
    unittest.main()
