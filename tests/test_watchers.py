import unittest

from sumgrove.auditors import check_paper, opened_twice
from sumgrove.collisions import find_collision
from sumgrove.deeds import Group, Rules
from sumgrove.epochs import Chronicle
from sumgrove.errors import GroveError
from sumgrove.houses import House
from sumgrove.ledgers import Ledger
from sumgrove.pruning import prune
from sumgrove.seals import Sealer, is_collision
from sumgrove.trees import build, get, put, root_of
from sumgrove.watchers import ReportRefused, Watcher, audit, report_of
from tests.helper import SEALER, cut, leaf, noted, outcome
from tests.test_ledgers import RULES, burn, group_of, new_ledger, opening

EMPTY_ROOT = root_of(SEALER, None)


def refused(word):
    return ("ReportRefused", {"word": word})


def new_house(last=9):
    return House(SEALER, 12345, last)


def watcher_of(ledger, house):
    return Watcher(SEALER, RULES, house.marks(), ledger.root())


def groups_of(epoch, ledger):
    """What is done in an epoch; nothing in each third one."""
    if epoch == 0:
        return [opening()]
    return [burn(ledger.epoch(), "ann", 1), group_of(ledger.epoch(), ("move", "bob", "cid", 0, 1))][:epoch % 3]


def state_of(watcher):
    return (watcher.root(), watcher.top(), watcher.length(), watcher.auditor().kept(),
            [watcher.auditor().heard(epoch) for epoch in range(10)])


class Course:
    """A ledger with a house and a watcher that took some reports; the next report is there but not taken."""

    def __init__(self, epochs):
        self.ledger = new_ledger()
        self.house = new_house()
        self.watcher = watcher_of(self.ledger, self.house)
        for epoch in range(epochs):
            self.end(groups_of(epoch, self.ledger))
            self.watcher.take(*self.report)
        self.end([opening()] if epochs == 0 else [burn(epochs, "ann", 1), burn(epochs, "bob", 1)])

    def end(self, groups):
        for group in groups:
            self.ledger.do(group)
        trail = self.ledger.trail()
        self.ledger.end_epoch()
        self.report = report_of(self.ledger, self.house, trail)

    def told(self, epoch, value):
        """A card and a statement with this value."""
        return (self.house.card(epoch), self.house.sign_again(epoch, value))

    def with_chronicle(self, root, count, receipts_root):
        """A card, a statement and a growth as if the epoch had ended with these."""
        chronicle = Chronicle(SEALER)
        own = self.ledger.chronicle()
        epoch = own.length() - 1
        for number in range(epoch):
            chronicle.add(own.root_of(number), own.count_of(number), own.receipts_of(number))
        chronicle.add(root, count, receipts_root)
        return (*self.told(epoch, chronicle.top()), chronicle.growth(epoch))

    def ends(self):
        """The root, the count and the root of the receipts of the epoch that ended."""
        own = self.ledger.chronicle()
        epoch = own.length() - 1
        return [own.root_of(epoch), own.count_of(epoch), own.receipts_of(epoch)]


class TakeTest(unittest.TestCase):
    """Points 175 to 177."""

    def test_new_watcher(self):
        ledger = new_ledger()
        watcher = watcher_of(ledger, new_house())
        self.assertEqual((watcher.root(), watcher.top(), watcher.length()), (ledger.root(), EMPTY_ROOT, 0))
        self.assertEqual(watcher.auditor().kept(), {})
        self.assertIs(watcher.auditor(), watcher.auditor())

    def test_reports_epoch_by_epoch(self):
        ledger, house = new_ledger(), new_house()
        watcher = watcher_of(ledger, house)
        tops = {}
        for epoch in range(10):
            for group in groups_of(epoch, ledger):
                ledger.do(group)
            trail = ledger.trail()
            ledger.end_epoch()
            report = report_of(ledger, house, trail)
            self.assertEqual(watcher.take(*report), epoch)
            tops[epoch] = ledger.chronicle().top()
            self.assertEqual((watcher.root(), watcher.top(), watcher.length()), (ledger.root(), tops[epoch], epoch + 1))
            self.assertEqual(watcher.auditor().kept(), tops)
            self.assertEqual(watcher.auditor().heard(epoch), report[:2])
        # The house has no epoch 10.
        ledger.end_epoch()
        self.assertEqual(outcome(report_of, ledger, house, []), ("NoSuchEpoch", {"epoch": 10}))

    def test_a_house_with_51_epochs(self):
        ledger, house = new_ledger(), new_house(50)
        watcher = watcher_of(ledger, house)
        for epoch in range(51):
            if epoch % 10 == 0:
                ledger.do(group_of(epoch, ("open", f"n{epoch}", noted())))
            trail = ledger.trail()
            ledger.end_epoch()
            self.assertEqual(watcher.take(*report_of(ledger, house, trail)), epoch)
        self.assertEqual((watcher.root(), watcher.length()), (ledger.root(), 51))

    def test_reports_that_show_more(self):
        course = Course(3)
        card, statement, trail, _ = course.report
        whole_trail = []
        tree = course.ledger.shelf().snapshot(2)
        for group, _ in trail:
            whole_trail.append((group, tree))
            copy = new_ledger()
            copy.take_over((tree, 3, [], [], [], ""))
            copy.do(group)
            tree = copy.tree()
        self.assertEqual(course.watcher.take(card, statement, whole_trail, course.ledger.chronicle().tree()), 3)

    def test_what_is_passed_stays_as_it_was(self):
        course = Course(2)
        card, statement, trail, growth = course.report
        kept = list(trail)
        course.watcher.take(card, statement, trail, growth)
        self.assertEqual(trail, kept)
        trail.clear()
        self.assertEqual(course.watcher.root(), course.ledger.root())

    def test_marks_that_are_changed_afterwards(self):
        ledger, house = new_ledger(), new_house()
        marks = list(house.marks())
        watcher = Watcher(SEALER, RULES, marks, ledger.root())
        marks.clear()
        ledger.end_epoch()
        self.assertEqual(watcher.take(*report_of(ledger, house, [])), 0)

    def test_error_class(self):
        self.assertEqual(ReportRefused.__bases__, (GroveError,))
        self.assertEqual(vars(ReportRefused(word="trail")), {"word": "trail"})


class RefusedTest(unittest.TestCase):
    """Point 176: the words, and their order."""

    def check(self, course, word, report):
        before = state_of(course.watcher)
        self.assertEqual(outcome(course.watcher.take, *report), refused(word))
        self.assertEqual(state_of(course.watcher), before)
        # The true report is still taken.
        epoch = course.watcher.length()
        self.assertEqual(outcome(course.watcher.take, *course.report), ("returned", epoch))

    def wrong_statements(self, course):
        """Pairs of a card and a statement of which each is refused, while the rest of the report is right."""
        card, (epoch, value, keys), _, _ = course.report
        pairs = [(card, (epoch, value, keys[:-1])), (card, (epoch, value + 1, keys)), (card[:-1], (epoch, value, keys)),
                 (card, (epoch, value, (keys[0] + 1, *keys[1:]))), (course.house.card(epoch + 1), (epoch, value, keys)),
                 (card, (epoch + 1, value, keys)), ((), ()), (5, 5),
                 course.told(epoch + 1, value)]
        if epoch > 0:
            pairs += [course.told(epoch - 1, value), course.told(0, value)]
        other = House(SEALER, 54321, 9)
        return pairs + [(other.card(epoch), other.sign(epoch, value))]

    def wrong_trails(self, course):
        trail = course.report[2]
        group, tree = trail[0]
        trails = [trail + trail[:1], [(burn(99, "ann", 1), tree)] + trail[1:], [(group, cut(tree))] + trail[1:],
                  [(group_of(group.epoch), tree)] + trail[1:], [(group, None)] + trail[1:],
                  [(group, leaf("ann", (9, 9), noted()))] + trail[1:]]
        return trails + ([trail[1:]] if len(trail) > 1 else [])

    def wrong_growths(self, course):
        """Trees of a right form, and others, with another root or with the leaf of the epoch cut."""
        epoch, value = course.report[1][:2]
        tree = course.ledger.chronicle().tree()
        growths = [None, cut(tree), leaf(f"e{epoch}", (1,), (2, 3)), ("branch", tree, tree), ("branch", tree, None),
                   put(tree, leaf(f"e{epoch}", (77,), (5, 6))), put(tree, leaf(f"e{epoch + 1}", (1,), (2, 3)))]
        if epoch > 0:
            growths += [prune(SEALER, tree, ["e0"]), course.ledger.chronicle().show([0])]
        found = [growth for growth in growths if growth != course.report[3]]
        self.assertGreaterEqual(len(found), 7)
        return found

    def test_statement(self):
        for epochs in (0, 1, 3):
            for place in range(len(self.wrong_statements(Course(epochs)))):
                course = Course(epochs)
                pair = self.wrong_statements(course)[place]
                self.check(course, "statement", (*pair, *course.report[2:]))

    def test_trail(self):
        for epochs in (0, 1, 3):
            for place in range(len(self.wrong_trails(Course(epochs)))):
                course = Course(epochs)
                card, statement, _, growth = course.report
                self.check(course, "trail", (card, statement, self.wrong_trails(course)[place], growth))

    def test_growth(self):
        for epochs in (0, 1, 3):
            for place in range(len(self.wrong_growths(Course(epochs)))):
                course = Course(epochs)
                self.check(course, "growth", (*course.report[:3], self.wrong_growths(course)[place]))

    def test_growth_from_another_top(self):
        """The chronicle behind the epoch is another one, though its top is signed."""
        course = Course(3)
        own = course.ledger.chronicle()
        for changed in (0, 1, 2):
            chronicle = Chronicle(SEALER)
            for number in range(4):
                count = own.count_of(number) + (1 if number == changed else 0)
                chronicle.add(own.root_of(number), count, own.receipts_of(number))
            course = Course(3)
            pair = course.told(3, chronicle.top())
            for growth in (chronicle.growth(3), chronicle.tree()):
                before = state_of(course.watcher)
                self.assertEqual(outcome(course.watcher.take, *pair, course.report[2], growth), refused("growth"))
                self.assertEqual(state_of(course.watcher), before)

    def test_growth_of_another_length(self):
        course = Course(2)
        own = course.ledger.chronicle()
        # Two epochs more at once: the next length is not that of the tree.
        own.add(5, 6, 7)
        pair = course.told(2, own.top())
        self.assertEqual(outcome(course.watcher.take, *pair, course.report[2], own.growth(2)), refused("growth"))
        self.assertEqual(outcome(course.watcher.take, *pair, course.report[2], own.tree()), refused("growth"))

    def test_epoch(self):
        for epochs in (0, 1, 3):
            for place in range(3):
                for more in (1, -1):
                    course = Course(epochs)
                    ends = course.ends()
                    ends[place] += more
                    card, statement, growth = course.with_chronicle(*ends)
                    self.check(course, "epoch", (card, statement, course.report[2], growth))
        course = Course(2)
        root, count, receipts_root = course.ends()
        card, statement, growth = course.with_chronicle(receipts_root, count, root)
        self.check(course, "epoch", (card, statement, course.report[2], growth))

    def test_epoch_with_another_true_trail(self):
        """The trail is accepted, but it is not the one of the epoch."""
        course = Course(2)
        card, statement, trail, growth = course.report
        self.check(course, "epoch", (card, statement, trail[:1], growth))
        course = Course(2)
        self.check(course, "epoch", (card, statement, [], growth))

    def test_leaves_of_another_form(self):
        """The leaf of the epoch has the right numbers, and one more, or one less."""
        for change in (lambda worths, notes: (worths * 2, notes), lambda worths, notes: (worths, notes + (1,)),
                       lambda worths, notes: (worths, notes[:1]), lambda worths, notes: (worths, notes[::-1])):
            course = Course(0)
            worths, notes = get(course.report[3], "e0")[2:]
            growth = leaf("e0", *change(worths, notes))
            pair = course.told(0, root_of(SEALER, growth))
            self.check(course, "epoch", (*pair, course.report[2], growth))

    def test_two_words(self):
        """For each two that are both due, the first one."""
        course = Course(3)
        bad_statement = course.told(2, course.report[1][1])
        bad_trail = course.report[2][:1] * 2
        bad_growth = course.ledger.chronicle().show([0])
        ends = course.ends()
        card, statement, growth = course.with_chronicle(ends[0], ends[1] + 1, ends[2])
        good_card, good_statement, good_trail, good_growth = course.report
        for word, report in (
            ("statement", (*bad_statement, bad_trail, good_growth)),
            ("statement", (*bad_statement, good_trail, bad_growth)),
            ("statement", (good_card, (3, statement[1], ()), good_trail, growth)),
            ("trail", (good_card, good_statement, bad_trail, bad_growth)),
            ("trail", (card, statement, bad_trail, growth)),
            # The growth has another root than the statement, and its leaf has another number of groups.
            ("growth", (good_card, good_statement, good_trail, growth)),
            ("growth", (good_card, good_statement, good_trail[:1], bad_growth)),
            ("statement", (*bad_statement, bad_trail, bad_growth)),
        ):
            before = state_of(course.watcher)
            self.assertEqual(outcome(course.watcher.take, *report), refused(word))
            self.assertEqual(state_of(course.watcher), before)
        self.assertEqual(course.watcher.take(*course.report), 3)

    def test_a_report_twice(self):
        course = Course(2)
        course.watcher.take(*course.report)
        before = state_of(course.watcher)
        self.assertEqual(outcome(course.watcher.take, *course.report), refused("statement"))
        self.assertEqual(state_of(course.watcher), before)

    def test_a_report_that_is_left_out(self):
        course = Course(2)
        left_out = course.report
        course.end([burn(3, "ann", 1)])
        later = course.report
        course.report = left_out
        self.check(course, "statement", later)
        self.assertEqual(course.watcher.take(*later), 3)

    def test_another_beginning(self):
        ledger, house = new_ledger(), new_house()
        watcher = Watcher(SEALER, RULES, house.marks(), ledger.root() + 1)
        ledger.do(opening())
        trail = ledger.trail()
        ledger.end_epoch()
        self.assertEqual(outcome(watcher.take, *report_of(ledger, house, trail)), refused("trail"))
        # With no steps the root that the watcher knows is not that of the leaf.
        ledger, house = new_ledger(), new_house()
        ledger.end_epoch()
        self.assertEqual(outcome(watcher.take, *report_of(ledger, house, [])), refused("epoch"))

    def test_other_rules_and_marks(self):
        course = Course(0)
        for rules in (Rules(1, 1, {}), Rules(3, 1, {})):
            watcher = Watcher(SEALER, rules, course.house.marks(), new_ledger().root())
            self.assertEqual(outcome(watcher.take, *course.report), refused("trail"))
        watcher = Watcher(SEALER, RULES, House(SEALER, 1, 9).marks(), new_ledger().root())
        self.assertEqual(outcome(watcher.take, *course.report), refused("statement"))
        watcher = Watcher(SEALER, RULES, (), new_ledger().root())
        self.assertEqual(outcome(watcher.take, *course.report), refused("statement"))


class ReportTest(unittest.TestCase):
    """report_of of the interface."""

    def test_parts_of_a_report(self):
        course = Course(2)
        card, statement, trail, growth = course.report
        self.assertIsInstance(course.report, tuple)
        chronicle = course.ledger.chronicle()
        self.assertEqual(card, course.house.card(2))
        self.assertEqual(statement, course.house.sign(2, chronicle.top()))
        self.assertEqual([group for group, _ in trail], [burn(2, "ann", 1), burn(2, "bob", 1)])
        self.assertEqual(growth, chronicle.growth(2))
        self.assertEqual(growth, prune(SEALER, chronicle.tree(), ["e2"]))

    def test_the_trail_is_copied(self):
        ledger, house = new_ledger(), new_house()
        ledger.do(opening())
        trail = ledger.trail()
        kept = list(trail)
        ledger.end_epoch()
        report = report_of(ledger, house, trail)
        self.assertEqual((trail, report[2]), (kept, kept))
        trail.clear()
        self.assertEqual(report[2], kept)

    def test_before_an_epoch_ended(self):
        ledger, house = new_ledger(), new_house()
        self.assertEqual(outcome(report_of, ledger, house, []), ("NoSuchEpoch", {"epoch": -1}))
        ledger.do(opening())
        self.assertEqual(outcome(report_of, ledger, house, ledger.trail()), ("NoSuchEpoch", {"epoch": -1}))

    def test_a_house_that_signed_another_value(self):
        ledger, house = new_ledger(), new_house()
        house.sign(0, 5)
        ledger.end_epoch()
        self.assertEqual(outcome(report_of, ledger, house, []), ("SignedAlready", {"epoch": 0}))
        ledger.end_epoch()
        self.assertEqual(report_of(ledger, house, [])[1][:2], (1, ledger.chronicle().top()))
        # Signing the same value again is no fault.
        self.assertEqual(report_of(ledger, house, []), report_of(ledger, house, []))

    def test_an_epoch_that_the_house_does_not_have(self):
        ledger, house = new_ledger(), new_house(1)
        for epoch in range(4):
            ledger.end_epoch()
            told = outcome(report_of, ledger, house, [])
            self.assertEqual(told[0] if epoch < 2 else told, "returned" if epoch < 2 else ("NoSuchEpoch", {"epoch": epoch}))

    def test_a_house_with_a_small_modulus(self):
        ledger = new_ledger()
        ledger.end_epoch()
        top = ledger.chronicle().top()
        self.assertGreater(top, 101)
        self.assertEqual(outcome(report_of, ledger, House(Sealer(101), 1, 5), []), ("InvalidValue", {"value": top}))

    def test_groups_of_the_next_epoch_do_not_count(self):
        course = Course(1)
        course.ledger.do(burn(2, "ann", 1))
        self.assertEqual(report_of(course.ledger, course.house, course.report[2]), course.report)


class AuditTest(unittest.TestCase):
    """Point 178."""

    def two(self, parted, epochs=5):
        """Two watchers; from the epoch parted on they were told of different ledgers by a house with two tongues."""
        house = new_house()
        ledgers = [new_ledger(), new_ledger()]
        watchers = [watcher_of(ledger, house) for ledger in ledgers]
        for epoch in range(epochs):
            for number, (ledger, watcher) in enumerate(zip(ledgers, watchers)):
                ledger.do(opening() if epoch == 0 else burn(epoch, "ann", 1 + number * (epoch == parted)))
                trail = ledger.trail()
                ledger.end_epoch()
                top = ledger.chronicle().top()
                watcher.take(house.card(epoch), house.sign_again(epoch, top), trail, ledger.chronicle().growth(epoch))
        return house, ledgers, watchers

    def test_the_same_reports(self):
        house, _, (one, other) = self.two(99)
        self.assertEqual((audit(one, other), audit(other, one), audit(one, one)), ([], [], []))
        self.assertEqual(audit(one, watcher_of(new_ledger(), house)), [])
        self.assertEqual(audit(watcher_of(new_ledger(), house), one), [])

    def test_different_reports(self):
        for parted in (1, 2, 4):
            house, ledgers, (one, other) = self.two(parted)
            papers = audit(one, other)
            self.assertEqual([paper[1][0] for paper in papers], list(range(parted, 5)))
            for epoch, paper in zip(range(parted, 5), papers):
                values = [watcher.auditor().kept()[epoch] for watcher in (one, other)]
                self.assertEqual(paper, (house.card(epoch), house.sign_again(epoch, values[0]),
                                         house.card(epoch), house.sign_again(epoch, values[1])))
                self.assertTrue(check_paper(SEALER, house.marks(), paper))
                self.assertNotEqual(opened_twice(SEALER, paper), [])
            self.assertEqual(audit(other, one), [paper[2:] + paper[:2] for paper in papers])
            for ledger, watcher in zip(ledgers, (one, other)):
                self.assertEqual(watcher.root(), ledger.root())

    def test_a_watcher_that_took_fewer_reports(self):
        house, _, (one, _) = self.two(1, 5)
        _, _, (_, other) = self.two(1, 3)
        papers = audit(one, other)
        self.assertEqual([paper[1][0] for paper in papers], [1, 2])
        papers.clear()
        self.assertEqual(len(audit(one, other)), 2)
        self.assertTrue(all(check_paper(SEALER, house.marks(), paper) for paper in audit(other, one)))


class SmallTest(unittest.TestCase):
    """A watcher is led to another root only with a collision; with a small modulus there are such."""

    def test_another_root(self):
        sealer, rules = Sealer(7), Rules(1, 0, {})
        ledger = Ledger(sealer, rules, noted())
        ledger.do(Group((("open", "ann", noted()), ("mint", "ann", 0, 5)), (), 0))
        tree = ledger.tree()
        house = House(sealer, 4, 0)
        group = Group((("burn", "ann", 0, 1),), (), 0)
        others = 0
        for ann in range(1, 30):
            for mint in range(10):
                shown = build([leaf("ann", (ann,), noted()), leaf("mint", (mint,), noted())])
                if root_of(sealer, shown) != ledger.root():
                    continue
                liar, honest = [Ledger(sealer, rules, noted()) for _ in range(2)]
                liar.take_over((shown, 0, [], [], [], ""))
                honest.take_over((tree, 0, [], [], [], ""))
                watcher = Watcher(sealer, rules, house.marks(), ledger.root())
                for one in (liar, honest):
                    one.do(group)
                trail = liar.trail()
                liar.end_epoch()
                statement = house.sign_again(0, liar.chronicle().top())
                self.assertEqual(watcher.take(house.card(0), statement, trail, liar.chronicle().growth(0)), 0)
                self.assertEqual(watcher.root(), liar.root())
                if watcher.root() != honest.root():
                    others += 1
                    found = find_collision(sealer, trail[0][1], tree) or find_collision(sealer, shown, tree)
                    self.assertTrue(is_collision(sealer, *found))
        self.assertGreater(others, 3)


if __name__ == "__main__":
    unittest.main()
