"""Watchers: they follow a ledger from outside, by a report at the end of each epoch."""

from sumgrove.auditors import Auditor, holds
from sumgrove.epochs import check_growth, epoch_name
from sumgrove.errors import GroveError
from sumgrove.refusals import NoSuchEpoch
from sumgrove.trails import BadStep, check_trail
from sumgrove.trees import get, root_of


class ReportRefused(GroveError):
    """A report that a watcher does not take."""

    def __init__(self, word):
        self.word = word


class Watcher:
    """Knows the root of the accounts, and the top and the length of the chronicle."""

    def __init__(self, sealer, rules, marks, root):
        self._sealer = sealer
        self._rules = rules
        self._marks = tuple(marks)
        self._root = root
        self._top = root_of(sealer, None)
        self._length = 0
        self._auditor = Auditor(sealer, marks)

    def take(self, card, statement, trail, growth):
        """Take the report of the next epoch and return the number of the epoch. Raise ReportRefused."""
        if not holds(self._sealer, self._marks, card, statement) or statement[0] != self._length:
            raise ReportRefused("statement")
        epoch, top, _ = statement
        try:
            ends = check_trail(self._sealer, self._rules, epoch, self._root, trail)
        except BadStep:
            raise ReportRefused("trail") from None
        if not check_growth(self._sealer, self._top, epoch, top, epoch + 1, growth):
            raise ReportRefused("growth")
        _, _, worths, notes = get(growth, epoch_name(epoch))
        if worths != (len(trail),) or notes != ends:
            raise ReportRefused("epoch")
        self._auditor.hear(card, statement)
        self._root = ends[0]
        self._top = top
        self._length = epoch + 1
        return epoch

    def root(self):
        """Return the root of the accounts."""
        return self._root

    def top(self):
        """Return the top of the chronicle."""
        return self._top

    def length(self):
        """Return the length of the chronicle."""
        return self._length

    def auditor(self):
        """Return the auditor itself that keeps the statements that were taken."""
        return self._auditor


def report_of(ledger, house, trail):
    """Return (card, statement, trail, growth) for the epoch that ended latest. Raise NoSuchEpoch and as sign does."""
    chronicle = ledger.chronicle()
    epoch = chronicle.length() - 1
    if epoch < 0:
        raise NoSuchEpoch(epoch)
    statement = house.sign(epoch, chronicle.top())
    return (house.card(epoch), statement, list(trail), chronicle.growth(epoch))


def audit(watcher, other):
    """Return the papers of two tongues for what two watchers took, ascending by epoch."""
    return watcher.auditor().meet(other.auditor())
