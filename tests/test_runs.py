"""Point 3, each of its items over whole runs of a ledger: groups, batches, epochs, joins, cuts of the journal, restarts."""

import unittest
from random import Random

from sumgrove.auditors import check_paper, opened_twice
from sumgrove.books import join_books
from sumgrove.checking import answer
from sumgrove.collisions import find_collision
from sumgrove.copies import Copy
from sumgrove.deeds import Group, Rules, group_names, minted
from sumgrove.groups import do_group
from sumgrove.houses import House
from sumgrove.journals import read_lines, readable_length
from sumgrove.ledgers import Ledger, restart
from sumgrove.pruning import join_trees, prune
from sumgrove.saving import load_ledger, save_ledger
from sumgrove.seals import Sealer, is_collision
from sumgrove.trees import build, leaves_of, root_of
from sumgrove.watchers import Watcher, audit, report_of
from tests.helper import SEALER, locked, noted, outcome
from tests.test_group_model import NAMES, model_outcome, some_group, sums_of, tree_of
from tests.test_ledgers import state_of
from tests.test_questions import right_answer, some_questions

NOTES = locked(1, need=1)
RATES = {(0, 1): (2, 1), (1, 0): (1, 3)}
LAST_EPOCH = 50


def accounts_of(ledger):
    return {one[1]: one[2:] for one in leaves_of(ledger.tree())}


class Run:
    """A ledger, all that follows it, and what must hold after each action."""

    def __init__(self, test, seed):
        self.test = test
        self.random = Random(seed)
        self.rules = Rules(2, seed % 3, RATES)
        self.ledger = Ledger(SEALER, self.rules, NOTES)
        self.house = House(SEALER, seed, LAST_EPOCH)
        self.watcher = Watcher(SEALER, self.rules, self.house.marks(), self.ledger.root())
        # The state of the ledger at each length of its journal.
        self.states = {0: state_of(self.ledger)}
        self.many = {}

    def count(self, word):
        self.many[word] = self.many.get(word, 0) + 1

    def some_group(self):
        """A made-up group; most of them can be done."""
        accounts = accounts_of(self.ledger)
        for _ in range(20):
            group = some_group(self.random, 2, accounts)
            group = Group(group.deeds, group.signatures, self.ledger.epoch())
            told = model_outcome(self.rules, accounts, group, epoch=self.ledger.epoch())
            if told[0] == "returned" or self.random.random() < 0.1:
                break
        return group

    def act(self):
        actions = [self.do_group] * 6 + [self.do_batch, self.join, self.cut_and_restart, self.save_and_load]
        actions += [self.end_epoch] * (self.ledger.epoch() <= LAST_EPOCH)
        self.random.choice(actions)()
        self.check_root()

    def keep_state(self):
        self.states[len(self.ledger.journal())] = state_of(self.ledger)

    def check_root(self):
        """The first item: the root is that of the tree that is built from nothing."""
        leaves = leaves_of(self.ledger.tree())
        self.random.shuffle(leaves)
        self.test.assertEqual(self.ledger.root(), root_of(SEALER, build(leaves)))
        self.test.assertEqual(self.ledger.tree(), build(leaves))

    def check_questions(self):
        """The second item."""
        leaves = leaves_of(self.ledger.tree())
        for question in some_questions(sorted({*NAMES, "a", "b", "zoe"})):
            shown = self.ledger.show(question)
            found = answer(SEALER, self.ledger.root(), shown, question)
            self.test.assertEqual(found, right_answer(leaves, question))

    def do_group(self):
        """A group on the ledger, by the second way to do it, and on a copy: the fourth and the fifth item."""
        group = self.some_group()
        accounts, before, root = accounts_of(self.ledger), state_of(self.ledger), self.ledger.root()
        told = model_outcome(self.rules, accounts, group, epoch=self.ledger.epoch())
        copy = Copy(SEALER, self.rules, self.ledger.epoch(), root, self.ledger.show_names(group_names(self.rules, group)))
        poor = Copy(SEALER, self.rules, self.ledger.epoch(), root, self.ledger.show_names(self.random.sample(NAMES, 3)))
        found = outcome(self.ledger.do, group)
        self.test.assertEqual(outcome(copy.do, group), found)
        of_poor = outcome(poor.do, group)
        self.count(of_poor[0])
        if of_poor[0] != "NotShown":
            self.test.assertEqual(of_poor, found)
        if told[0] == "returned":
            self.count("done")
            self.test.assertEqual(found, ("returned", self.ledger.root()))
            self.test.assertEqual(self.ledger.tree(), tree_of(told[1]))
            sums = [self.ledger.total(kind) for kind in (0, 1)]
            self.test.assertEqual(sums, [now + minted(group, kind) for kind, now in enumerate(sums_of(accounts, 2))])
            self.keep_state()
        else:
            self.count("refused")
            self.test.assertEqual(found, told)
            self.test.assertEqual(state_of(self.ledger), before)

    def do_batch(self):
        groups = [self.some_group() for _ in range(self.random.randrange(4))]
        copy = Copy(SEALER, self.rules, self.ledger.epoch(), self.ledger.root(), self.ledger.tree())
        expected = []
        for group in groups:
            word, told = outcome(copy.do, group)
            expected.append(None if word == "returned" else (told["index_of_deed"], told["word"]))
        before = len(self.ledger.trail())
        self.test.assertEqual(self.ledger.do_batch(groups), expected)
        self.test.assertEqual(self.ledger.root(), copy.root())
        self.test.assertEqual(len(self.ledger.trail()), before + expected.count(None))
        self.fill_states()

    def fill_states(self):
        """The states after lines that were written at once."""
        text = self.ledger.journal()
        ends = [place + 1 for place, character in enumerate(text) if character == "\n"]
        for end in ends:
            if end not in self.states:
                self.states[end] = state_of(restart(SEALER, self.rules, NOTES, text[:end]))

    def end_epoch(self):
        trail = self.ledger.trail()
        epoch = self.ledger.end_epoch()
        self.count("epoch")
        self.test.assertEqual(self.watcher.take(*report_of(self.ledger, self.house, trail)), epoch)
        self.test.assertEqual(self.watcher.root(), self.ledger.root())
        self.test.assertEqual(self.watcher.top(), self.ledger.chronicle().top())
        self.keep_state()
        self.check_questions()

    def join(self):
        """Two books from the present tree; what is not refused is done by the ledger."""
        tree, epoch = self.ledger.tree(), self.ledger.epoch()
        first, second = [self.some_group()], [self.some_group() for _ in range(3)]
        word, told = outcome(join_books, SEALER, self.rules, epoch, tree, first, second)
        if word != "returned":
            self.test.assertEqual(word, "BookRefused")
            return
        joined, clashes = told
        clashing = [clash[0] for clash in clashes]
        groups = first + [group for place, group in enumerate(second) if place not in clashing]
        self.test.assertEqual(self.ledger.do_batch(groups), [None] * len(groups))
        self.test.assertEqual(self.ledger.tree(), joined)
        self.count("join")
        self.fill_states()

    def cut_and_restart(self):
        """A cut of the journal at any place: the ledger is what it was after the last line that is left."""
        text = self.ledger.journal()
        place = self.random.choice((len(text), self.random.randrange(len(text) + 1)))
        again = restart(SEALER, self.rules, NOTES, text[:place])
        end = readable_length(text[:place])
        self.test.assertEqual(again.journal(), text[:end])
        self.test.assertEqual(state_of(again), self.states[end])
        self.count("cut" if place < len(text) else "restart")
        if place == len(text):
            self.test.assertEqual(state_of(again), state_of(self.ledger))
            self.ledger = again

    def save_and_load(self):
        text = save_ledger(self.ledger)
        again = load_ledger(SEALER, self.rules, NOTES, text)
        self.test.assertEqual(state_of(again), state_of(self.ledger))
        self.test.assertEqual(save_ledger(again), text)
        self.count("load")
        self.ledger = again


class RunsTest(unittest.TestCase):
    def test_runs(self):
        many = {}
        for seed in range(9):
            run = Run(self, seed)
            for _ in range(60):
                run.act()
            for word in run.many:
                many[word] = many.get(word, 0) + run.many[word]
        for word in ("done", "refused", "NotShown", "epoch", "join", "cut", "restart", "load"):
            self.assertGreater(many[word], 15, word)


class TwoTonguesTest(unittest.TestCase):
    """The last item, over runs: two watchers of ledgers that part at some epoch."""

    def test_runs_that_part(self):
        for seed in (1, 2, 3):
            run = Run(self, seed)
            while run.ledger.epoch() < 2:
                run.act()
            other = self.again(run, seed)
            # They part with the number of the groups in the epoch, if not by what these do.
            other.ledger.do(Group((("open", "zoe", noted()),), (), other.ledger.epoch()))
            for each in (run, other):
                for _ in range(2):
                    each.end_epoch()
            papers = audit(run.watcher, other.watcher)
            last = run.ledger.epoch() - 1
            self.assertEqual([paper[1][0] for paper in papers], [last - 1, last])
            for paper in papers:
                self.assertTrue(check_paper(SEALER, run.house.marks(), paper))
                self.assertNotEqual(opened_twice(SEALER, paper), [])

    def again(self, run, seed):
        """A run that did the same, with a watcher of its own, and with a house that knows nothing of the first run."""
        other = Run(self, seed)
        for group in read_lines(run.ledger.journal()):
            if group is None:
                other.end_epoch()
            else:
                other.ledger.do(group)
        self.assertEqual(state_of(other.ledger), state_of(run.ledger))
        return other


class CollisionTest(unittest.TestCase):
    """The third item, over whole runs of ledgers with small moduli, where collisions are many."""

    def ledgers(self, sealer, rules, many):
        """Ledgers that did different groups, each with its tree after each one."""
        random = Random(sealer.modulus())
        trees = []
        for _ in range(many):
            ledger = Ledger(sealer, rules, noted())
            ledger.do(Group((("open", "ann", noted()), ("open", "bob", noted()), ("mint", "ann", 0, 9)), (), 0))
            for _ in range(6):
                name, other = random.sample(("ann", "bob"), 2)
                deed = random.choice((("burn", name, 0, 1), ("move", name, other, 0, 2), ("mint", name, 0, 3)))
                if outcome(ledger.do, Group((deed,), (), ledger.epoch()))[0] == "returned":
                    trees.append(ledger.tree())
                if random.random() < 0.2:
                    ledger.end_epoch()
        return trees

    def test_two_answers(self):
        questions = [("leaf", "ann"), ("leaf", "bob"), ("total",), ("range", "b", "z"), ("several", ("ann", "mint"))]
        different = 0
        for modulus in (5, 7, 11):
            sealer, rules = Sealer(modulus), Rules(1, 0, {})
            trees = list(dict.fromkeys(self.ledgers(sealer, rules, 8)))
            shown = trees + [prune(sealer, tree, names) for tree in trees for names in (["ann"], ["bob", "mint"])]
            by_root = {}
            for tree in shown:
                root = root_of(sealer, tree)
                told = [outcome(answer, sealer, root, tree, question) for question in questions]
                by_root.setdefault(root, []).append((tree, told))
            for group in by_root.values():
                different += sum(self.check_pair(sealer, one, other) for one in group[::3] for other in group)
        self.assertGreater(different, 100)

    def check_pair(self, sealer, one, other):
        """How many questions the checker answers differently from two trees of the same root."""
        pairs = [pair for pair in zip(one[1], other[1]) if pair[0] != pair[1]]
        many = len([pair for pair in pairs if "NotShown" not in (pair[0][0], pair[1][0])])
        if many > 0:
            found = find_collision(sealer, one[0], other[0])
            self.assertTrue(is_collision(sealer, *found))
            self.assertEqual(outcome(join_trees, sealer, one[0], other[0]),
                             ("Unlike", {"first": found[0], "second": found[1]}))
        return many


class CopiesTest(unittest.TestCase):
    """The fifth item over a run: a copy that is grown, does groups, forgets and follows the epochs."""

    def test_a_copy_that_follows(self):
        run = Run(self, 20)
        copy = Copy(SEALER, run.rules, 0, run.ledger.root(), run.ledger.show_names([]))
        refused, poor = 0, 0
        for number in range(150):
            group = run.some_group()
            names = group_names(run.rules, group)
            if outcome(copy.do, group)[0] == "NotShown":
                poor += 1
                copy.grow(run.ledger.show_names(names))
            else:
                copy = Copy(SEALER, run.rules, run.ledger.epoch(), run.ledger.root(), run.ledger.show_names(names))
            before = copy.root()
            found = outcome(copy.do, group)
            self.assertEqual(found, outcome(run.ledger.do, group))
            self.assertEqual(copy.root(), run.ledger.root())
            if found[0] != "returned":
                refused += 1
                self.assertEqual(copy.root(), before)
            if number % 4 == 0:
                copy.forget(names[:1])
            if number % 10 == 9:
                run.ledger.end_epoch()
                self.assertEqual(copy.next_epoch(), run.ledger.epoch())
        self.assertGreater(refused, 5)
        self.assertGreater(poor, 30)


class RefusedTest(unittest.TestCase):
    """The fourth item: a group that breaks a rule changes nothing, whatever it did before."""

    def test_a_late_refusal(self):
        run = Run(self, 30)
        for _ in range(80):
            group = run.some_group()
            before = state_of(run.ledger)
            late = Group((*group.deeds, ("close", "nobody")), group.signatures, run.ledger.epoch())
            self.assertEqual(outcome(run.ledger.do, late)[0], "GroupRefused")
            self.assertEqual(state_of(run.ledger), before)
            tree = run.ledger.tree()
            told = outcome(do_group, SEALER, run.rules, run.ledger.epoch(), tree, group)
            self.assertEqual(outcome(run.ledger.do, group)[0], told[0])


if __name__ == "__main__":
    unittest.main()
