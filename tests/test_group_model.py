"""Points 83 to 88, 110, 111, 115, 116 and two items of point 3, on many groups, against a second way to do a group."""

import unittest
from random import Random

from sumgrove.books import are_apart, join_books
from sumgrove.copies import Copy
from sumgrove.deeds import Group, Rules, group_names, minted
from sumgrove.groups import do_group
from sumgrove.pruning import prune
from sumgrove.questions import ask
from sumgrove.trees import build, get, put, root_of
from tests.helper import SEALER, leaf, lock, noted, outcome, refused

NAMES = ("ann", "ann0", "bank", "bob", "cid", "mint")
WORDS = ("open", "close", "move", "mint", "burn", "change", "rule")
ALL_WORDS = set("""
    epoch unknown key there unsigned money same rate little short limit held much
""".split())
MOST = 10 ** 12
EPOCH = 4


class Stop(Exception):
    """What ends a group: a word, or a name that is not shown."""


class Model:
    """A group on a dict from names to (worths, notes), step by step as the points 83 to 86 say it."""

    def __init__(self, rules, accounts, hidden, closed, epoch):
        self.rules = rules
        self.epoch = epoch
        self.now = {name: ([*worths], notes) for name, (worths, notes) in accounts.items()}
        # For each name: its notes, how many keys it showed, and what it gave of each kind.
        self.counts = {name: [notes, 0, [0, 0, 0]] for name, (_, notes) in accounts.items()}
        self.hidden = hidden
        self.closed = closed
        self.index = -1

    def stop(self, word):
        raise Stop(refused(self.index, word))

    def look(self, name):
        if name in self.hidden:
            raise Stop(("NotShown", {"name": name}))
        return self.now.get(name)

    def must(self, name):
        if self.look(name) is None:
            self.stop("unknown")

    def sign(self, name, triples):
        self.must(name)
        worths, notes = self.now[name]
        notes = list(notes)
        for place, key, next_lock in triples:
            if notes[place] != lock(key):
                self.stop("key")
            notes[place] = next_lock
        self.now[name] = (worths, tuple(notes))
        self.counts[name][1] = len(triples)

    def signed(self, name):
        notes, keys, _ = self.counts[name]
        if keys < notes[3]:
            self.stop("unsigned")

    def give(self, name, other, kind, amount, limited=True):
        notes, _, given = self.counts[name]
        worths = self.now[name][0]
        if worths[kind] < amount:
            self.stop("short")
        if limited:
            given[kind] += amount
            if notes[4] and given[kind] > notes[4]:
                self.stop("limit")
        worths[kind] -= amount
        if self.epoch < notes[7] and worths[notes[5]] < notes[6]:
            self.stop("held")
        if other is not None:
            self.take(other, kind, amount)

    def take(self, name, kind, amount):
        self.now[name][0][kind] += amount
        if self.now[name][0][kind] > MOST:
            self.stop("much")

    def open(self, name, notes):
        if self.look(name) is not None:
            self.stop("there")
        if name in self.closed:
            raise Stop(("NotShown", {"name": name}))
        self.now[name] = ([0] * self.rules.kinds, notes)
        self.counts[name] = [notes, 0, [0, 0, 0]]

    def close(self, name):
        self.must(name)
        self.signed(name)
        if sum(self.now[name][0]) > 0:
            self.stop("money")
        del self.now[name]

    def move(self, name, other, kind, amount):
        if name == other:
            self.stop("same")
        self.must(name)
        self.must(other)
        self.signed(name)
        self.give(name, other, kind, amount)
        if self.rules.fee and "bank" not in (name, other):
            self.must("bank")
            self.give(name, "bank", 0, self.rules.fee)

    def mint(self, name, kind, amount):
        self.must(name)
        self.must("mint")
        self.signed("mint")
        self.take(name, kind, amount)

    def burn(self, name, kind, amount):
        self.must(name)
        self.signed(name)
        self.give(name, None, kind, amount)

    def change(self, name, given, taken, amount):
        self.must(name)
        self.must("bank")
        if name == "bank":
            self.stop("same")
        if (given, taken) not in self.rules.rates:
            self.stop("rate")
        self.signed(name)
        a, b = self.rules.rates[given, taken]
        if amount * a < b:
            self.stop("little")
        self.give(name, "bank", given, amount)
        self.give("bank", name, taken, amount * a // b, limited=False)

    def rule(self, name, notes):
        self.must(name)
        self.signed(name)
        self.now[name] = (self.now[name][0], notes)


def model_outcome(rules, accounts, group, hidden=(), closed=(), epoch=EPOCH):
    """("returned", accounts), or the error; looking at the hidden names and opening the closed ones is not possible."""
    model = Model(rules, accounts, hidden, closed, epoch)
    try:
        if group.epoch != epoch:
            model.stop("epoch")
        for name, triples in group.signatures:
            model.sign(name, triples)
        for model.index, deed in enumerate(group.deeds):
            getattr(model, deed[0])(*deed[1:])
    except Stop as stop:
        return stop.args[0]
    return ("returned", {name: (tuple(worths), notes) for name, (worths, notes) in model.now.items()})


def tree_of(accounts):
    return build([leaf(name, *row) for name, row in accounts.items()])


def some_notes(random, kinds):
    keys = [random.choice((0, 0, 1, 2)) for _ in range(3)]
    locks = tuple(lock(key) if key else 0 for key in keys)
    most = sum(1 for key in keys if key)
    return noted(locks, random.choice((0, 0, 0, most, random.randrange(most + 1))), random.choice((0, 0, 0, 3, 6)),
                 (random.randrange(kinds), random.choice((0, 0, 2, 4)), random.choice((0, EPOCH, EPOCH + 1))))


def some_accounts(random, kinds):
    """Most of the names, with small worths or ones near the greatest."""
    def worth():
        return random.choice((0, 0, 1, 3, 6, 9, 20, MOST, MOST - 2))
    return {name: (tuple(worth() for _ in range(kinds)), some_notes(random, kinds))
            for name in NAMES if random.random() < 0.85}


def some_rules(random):
    kinds = random.choice((1, 2, 2, 3))
    pairs = [(one, other) for one in range(kinds) for other in range(kinds) if one != other]
    rates = {pair: (random.randrange(1, 4), random.randrange(1, 4)) for pair in pairs if random.random() < 0.8}
    return Rules(kinds, random.choice((0, 0, 1, 2)), rates)


def some_deed(random, kinds, accounts):
    word = random.choice(WORDS)
    known = sorted(accounts) or NAMES
    name, other = [random.choice(known if random.random() < 0.8 else NAMES) for _ in range(2)]
    amount = random.choice((1, 1, 2, 3, 4, 7))
    if word in ("open", "rule"):
        return (word, random.choice(NAMES) if word == "open" else name, some_notes(random, kinds))
    if word == "close":
        poor = [one for one in known if one in accounts and sum(accounts[one][0]) == 0]
        return (word, random.choice(poor or known))
    if word == "move":
        return (word, name, other, random.randrange(kinds), amount)
    if word == "change":
        return (word, name, random.randrange(kinds), random.randrange(kinds), amount)
    return (word, name, random.randrange(kinds), amount)


def some_signature(random, name, accounts):
    """Right keys mostly, for some of the places that have locks."""
    notes = accounts.get(name, ((), noted()))[1]
    right = {lock(1): 1, lock(2): 2}
    places = [place for place in range(3) if notes[place] in right and random.random() < 0.9]
    if not places or random.random() < 0.03:
        places = [random.randrange(3)]
    return (name, tuple((place, right.get(notes[place], 3) if random.random() < 0.98 else 3,
                         lock(random.choice((1, 2)))) for place in places))


def some_group(random, kinds, accounts, lengths=(1, 1, 1, 2, 2, 3, 4, 6)):
    deeds = tuple(some_deed(random, kinds, accounts) for _ in range(random.choice(lengths)))
    with_locks = [name for name, (_, notes) in sorted(accounts.items()) if any(notes[:3])]
    signers = [name for name in with_locks if random.random() < 0.7]
    if random.random() < 0.02:
        signers.append(random.choice([name for name in NAMES if name not in signers] or ["zoe"]))
    signatures = tuple(some_signature(random, name, accounts) for name in signers)
    return Group(deeds, signatures, EPOCH if random.random() < 0.99 else EPOCH + 1)


def some_cases(seed, many):
    """Rules, accounts and a group, again and again; what is done goes into the accounts of the next case."""
    random = Random(seed)
    accounts, rules = {}, None
    for place in range(many):
        if place % 10 == 0:
            rules = some_rules(random)
            accounts = some_accounts(random, rules.kinds)
        group = some_group(random, rules.kinds, accounts)
        yield random, rules, accounts, group
        word, result = model_outcome(rules, accounts, group)
        accounts = result if word == "returned" else accounts


def sums_of(accounts, kinds):
    return [sum(worths[kind] for worths, _ in accounts.values()) for kind in range(kinds)]


class ModelTest(unittest.TestCase):
    def expected(self, told):
        word, result = told
        return (word, tree_of(result)) if word == "returned" else told

    def test_many_groups(self):
        words = {}
        for _, rules, accounts, group in some_cases(5, 6000):
            told = model_outcome(rules, accounts, group)
            tree = tree_of(accounts)
            found = outcome(do_group, SEALER, rules, EPOCH, tree, group)
            self.assertEqual(found, self.expected(told), (vars(rules), accounts, vars(group)))
            self.assertEqual(tree, tree_of(accounts))
            word = told[1]["word"] if told[0] == "GroupRefused" else told[0]
            words[word] = words.get(word, 0) + 1
        # The cases are worth something only if each of the words is among them.
        self.assertEqual(set(words), ALL_WORDS | {"returned"})
        self.assertGreater(words["returned"], 500)

    def test_sums(self):
        """Point 88 and the fourth item of point 3."""
        mints = 0
        for _, rules, accounts, group in some_cases(6, 2500):
            word, result = model_outcome(rules, accounts, group)
            if word == "returned":
                tree = do_group(SEALER, rules, EPOCH, tree_of(accounts), group)
                before = sums_of(accounts, rules.kinds)
                change = [minted(group, kind) for kind in range(rules.kinds)]
                mints += any(change)
                after = ask(SEALER, tree, ("total",)) or (0,) * rules.kinds
                self.assertEqual(after, tuple(one + more for one, more in zip(before, change)))
        self.assertGreater(mints, 100)

    def test_copies_that_hold_enough(self):
        """Point 111 and the fifth item of point 3."""
        for _, rules, accounts, group in some_cases(7, 1500):
            tree = tree_of(accounts)
            shown = prune(SEALER, tree, group_names(rules, group))
            told = model_outcome(rules, accounts, group)
            copy = Copy(SEALER, rules, EPOCH, root_of(SEALER, tree), shown)
            found = outcome(copy.do, group)
            if told[0] == "returned":
                root = root_of(SEALER, tree_of(told[1]))
                self.assertEqual((found, copy.root()), (("returned", root), root))
            else:
                self.assertEqual((found, copy.tree()), (told, shown))

    def test_copies_that_hold_some_names(self):
        """Point 111: NotShown with the name that is looked for, and then nothing has changed."""
        hidden_cases = 0
        for random, rules, accounts, group in some_cases(8, 3000):
            tree = tree_of(accounts)
            shown = prune(SEALER, tree, [name for name in NAMES if random.random() < 0.6])
            hidden = [name for name in NAMES if outcome(get, shown, name)[0] == "NotShown"]
            row = leaf("a", (0,) * rules.kinds, noted())
            closed = [name for name in NAMES if outcome(put, shown, leaf(name, *row[2:]))[0] == "NotShown"]
            told = model_outcome(rules, accounts, group, hidden, closed)
            copy = Copy(SEALER, rules, EPOCH, root_of(SEALER, tree), shown)
            found = outcome(copy.do, group)
            hidden_cases += told[0] == "NotShown"
            if told[0] == "returned":
                self.assertEqual(found, ("returned", root_of(SEALER, tree_of(told[1]))))
            else:
                self.assertEqual((found, copy.tree()), (told, shown))
        self.assertGreater(hidden_cases, 500)


class BooksModelTest(unittest.TestCase):
    """Points 115 and 116."""

    def test_joining(self):
        random = Random(9)
        many = 0
        for _, rules, accounts, group in some_cases(9, 1000):
            groups = [group] + [some_group(random, rules.kinds, accounts) for _ in range(3)]
            first, first_after, _ = self.tried(rules, accounts, groups[:2])
            _, after, clashes = self.tried(rules, first_after, groups[2:])
            found = join_books(SEALER, rules, EPOCH, tree_of(accounts), first, groups[2:])
            self.assertEqual(found, (tree_of(after), clashes))
            many += len(clashes)
        self.assertGreater(many, 500)

    def test_books_that_are_apart(self):
        random = Random(10)
        many = 0
        for _, rules, accounts, _ in some_cases(10, 400):
            some = self.groups_about(random, rules, accounts, ("ann", "ann0", "bank"))
            first, _, _ = self.tried(rules, accounts, some)
            others = self.groups_about(random, rules, accounts, ("bob", "cid", "mint"))
            apart = [group for group in others if all(are_apart(rules, group, one) for one in first)]
            second, _, _ = self.tried(rules, accounts, apart)
            there = join_books(SEALER, rules, EPOCH, tree_of(accounts), first, second)
            back = join_books(SEALER, rules, EPOCH, tree_of(accounts), second, first)
            self.assertEqual(there[1], [])
            self.assertEqual(back, there)
            many += bool(first and second)
        self.assertGreater(many, 50)

    def groups_about(self, random, rules, accounts, names):
        """Groups that are mostly about some of the names."""
        some = {name: accounts[name] for name in names if name in accounts}
        return [some_group(random, rules.kinds, some, (1, 2)) for _ in range(5)]

    def tried(self, rules, accounts, groups):
        """The groups that are not refused, one after the other, the accounts after them, and the clashes."""
        done, clashes = [], []
        for place, group in enumerate(groups):
            word, result = model_outcome(rules, accounts, group)
            if word == "returned":
                done.append(group)
                accounts = result
            else:
                clashes.append((place, result["index_of_deed"], result["word"]))
        return done, accounts, clashes


if __name__ == "__main__":
    unittest.main()
