import unittest
from itertools import product

from sumgrove.auditors import Auditor, check_paper, holds, opened_twice
from sumgrove.errors import GroveError
from sumgrove.houses import House
from sumgrove.refusals import BadStatement
from sumgrove.seals import Sealer, is_collision
from tests.helper import PRIME, SEALER, lock

HOUSE = House(SEALER, 3, 4)
MARKS = HOUSE.marks()
N = 61
# What tuples and integers can be, put in the place of anything.
SHAPES = (0, 1, -1, 17, 10 ** 30, (), (0,), (1, 2), (1, 2, 3), (1, 2, 3, 4), ((),), ((), (), ()), ((), (), (), ()),
          ((1, 2),) * N, (5,) * N, ((),) * N, ((1,),) * N, ((1, 2, 3),) * N, ((((1,), 2), 3), ()),
          (0, 5, ()), (0, (), (1,) * N), ((), 5, (1,) * N))


def deep():
    """A tuple that is nested deeper than recursion can go."""
    value = ()
    for _ in range(10 ** 5):
        value = (value,)
    return value


def replaced(items, place, item):
    return (*items[:place], item, *items[place + 1:])


def row_of_card(card):
    return (11,) + sum(card, ())


def told(epoch, value, house=HOUSE):
    """The card and the statement, as a house with two tongues tells them."""
    return (house.card(epoch), house.sign_again(epoch, value))


def paper(epoch, value, other, house=HOUSE):
    return (*told(epoch, value, house), *told(epoch, other, house))


class HoldsTest(unittest.TestCase):
    """Point 133."""

    def setUp(self):
        self.card, self.statement = told(2, 1234567890123456789)

    def check(self, expected, card, statement, marks=MARKS, sealer=SEALER):
        self.assertIs(holds(sealer, marks, card, statement), expected, (card, statement))

    def check_statement(self, expected, place, item):
        self.check(expected, self.card, replaced(self.statement, place, item))

    def check_key(self, expected, place, key):
        self.check_statement(expected, 2, replaced(self.statement[2], place, key))

    def test_true_statements(self):
        for epoch in range(5):
            for value in (0, 1, 2, PRIME // 2, PRIME - 2, PRIME - 1):
                self.check(True, *told(epoch, value))
        for modulus in (3, 4, 7, 8, 101):
            sealer = Sealer(modulus)
            house = House(sealer, 0, 1)
            for value in (0, 1, modulus - 1):
                self.check(True, *told(1, value, house), house.marks(), sealer)

    def test_all_values_of_a_small_modulus(self):
        sealer = Sealer(1021)
        house = House(sealer, 12, 0)
        for value in range(1021):
            self.check(True, *told(0, value, house), house.marks(), sealer)

    def test_epoch(self):
        for epoch in (-6, -5, -3, -2, -1, 0, 1, 3, 4, 5, 6, 10 ** 30):
            self.check_statement(False, 0, epoch)
        self.check(True, self.card, self.statement, MARKS[:3])
        self.check(False, self.card, self.statement, MARKS[:2])
        self.check(False, self.card, self.statement, ())
        # With the same mark again, the number of marks alone tells which epochs there are.
        marks = (MARKS[2],) * 3
        for epoch, expected in ((-3, False), (-1, False), (0, True), (1, True), (2, True), (3, False)):
            self.check(expected, self.card, replaced(self.statement, 0, epoch), marks)

    def test_marks(self):
        self.check(False, self.card, self.statement, replaced(MARKS, 2, MARKS[2] + 1))
        self.check(True, self.card, self.statement, replaced(MARKS, 1, 0))

    def test_card(self):
        self.check(False, HOUSE.card(1), self.statement)
        self.check(False, self.card[:-1], self.statement)
        self.check(False, (*self.card, self.card[0]), self.statement)
        self.check(False, (), self.statement)
        for place in (0, 1, 30, 60):
            pair = self.card[place]
            for item in (pair[0], (), pair[:1], (*pair, 1), (pair[0], 0), (0, pair[1]), (-1, pair[1]), pair[::-1],
                         (pair[0], PRIME + 1), (PRIME + 1, pair[1]), (pair[0], pair[1] % PRIME + 1),
                         (pair[0], (pair[1],)), ((), ())):
                self.check(False, replaced(self.card, place, item), self.statement)

    def test_cards_with_their_own_marks(self):
        """A card of a wrong form is refused, also if the mark is made for it."""
        many, keys = 3, (1, 2, 3)
        sealer = Sealer(5)
        locks = tuple(sealer.seal((7, key)) + 1 for key in keys)
        good = tuple((one, one) for one in locks)

        def check(expected, card):
            marks = (sealer.seal(row_of_card(card)),)
            self.check(expected, card, (0, 4, keys), marks, sealer)

        self.assertEqual(many, len(good))
        check(True, good)
        check(True, tuple((5, one) if bit else (one, 5) for one, bit in zip(locks, (0, 0, 1))))
        check(True, tuple((1, one) if bit else (one, 1) for one, bit in zip(locks, (0, 0, 1))))
        check(False, (*good, good[0]))
        check(False, good[:2])
        for place in range(3):
            one = locks[place]
            # The lock that is not opened is wrong, too: 0 and less, or beyond the modulus.
            for wrong in (0, -1, 6, 10):
                check(False, replaced(good, place, (wrong, one) if place == 2 else (one, wrong)))
            check(False, replaced(good, place, (one,)))
            check(False, replaced(good, place, (one, one, one)))

    def test_value(self):
        for value in (-1, PRIME, PRIME + self.statement[1], self.statement[1] - 2 ** 61, self.statement[1] + 2 ** 61):
            self.check_statement(False, 1, value)
        for place in range(N):
            self.check_statement(False, 1, self.statement[1] ^ 2 ** place)

    def test_values_beyond_the_modulus(self):
        sealer = Sealer(5)
        house = House(sealer, 1, 0)
        card = house.card(0)
        keys = [[sealer.seal((9, 1, 0, place, bit)) for bit in (0, 1)] for place in range(3)]
        for value in range(-8, 16):
            statement = (0, value, tuple(keys[place][value >> place & 1] for place in range(3)))
            self.check(0 <= value < 5, card, statement, house.marks(), sealer)

    def test_keys(self):
        keys = self.statement[2]
        self.check_statement(False, 2, keys[:-1])
        self.check_statement(False, 2, (*keys, keys[0]))
        self.check_statement(False, 2, ())
        other = HOUSE.sign_again(2, PRIME - 1 - self.statement[1])[2]
        for place in range(N):
            self.check_key(False, place, keys[place] + 1)
            if keys[place] != other[place]:
                self.check_key(False, place, other[place])

    def test_keys_below_0(self):
        # The seal of a row does not change if an item is greater by the modulus.
        for place in (0, 30, 60):
            key = self.statement[2][place]
            self.assertEqual(lock(key - PRIME), lock(key))
            self.check_key(False, place, key - PRIME)
            self.check_key(True, place, key + PRIME)

    def test_the_key_0(self):
        sealer = Sealer(7)
        card = ((sealer.seal((7, 0)) + 1, 1),) * 3
        marks = (sealer.seal(row_of_card(card)),)
        for key, expected in ((0, True), (7, True), (-7, False)):
            self.check(expected, card, (0, 0, (key, 0, 0)), marks, sealer)
            self.check(expected, card, (0, 0, (0, 0, key)), marks, sealer)

    def test_number_of_items(self):
        self.check(False, self.card, self.statement[:2])
        self.check(False, self.card, (*self.statement, 0))
        self.check(False, self.card, ())

    def test_any_shape_raises_nothing(self):
        for shape in SHAPES + (deep(),):
            self.check(False, self.card, shape)
            self.check(False, shape, self.statement)
            self.check(False, shape, shape)
            for place in range(3):
                self.check_statement(False, place, shape)
            for place in (0, 60):
                self.check(False, replaced(self.card, place, shape), self.statement)
                self.check(False, replaced(self.card, place, (shape, self.card[place][1])), self.statement)
                self.check(False, replaced(self.card, place, (self.card[place][0], shape)), self.statement)
                self.check_key(False, place, shape)

    def test_other_sealers(self):
        for modulus in (3, PRIME - 1):
            self.check(False, self.card, self.statement, MARKS, Sealer(modulus))


class PaperTest(unittest.TestCase):
    """Point 134."""

    def check(self, expected, value, marks=MARKS, sealer=SEALER):
        self.assertIs(check_paper(sealer, marks, value), expected, value)

    def test_equal_cards(self):
        for epoch in range(5):
            self.check(True, paper(epoch, 0, 1))
            self.check(True, paper(epoch, PRIME - 1, 17))
            self.check(True, paper(epoch, 17, PRIME - 1))

    def test_the_same_value(self):
        self.check(False, paper(1, 17, 17))
        self.check(False, paper(1, 0, 0))

    def test_different_epochs(self):
        self.check(False, (*told(1, 17), *told(2, 18)))
        self.check(False, (*told(1, 17), *told(2, 17)))

    def test_one_statement_that_does_not_hold(self):
        good = paper(1, 17, 18)
        self.check(True, good)
        for place in (0, 2):
            self.check(False, replaced(good, place, HOUSE.card(2)))
        for place in (1, 3):
            self.check(False, replaced(good, place, replaced(good[place], 1, 19)))
            self.check(False, replaced(good, place, replaced(good[place], 0, 2)))
            self.check(False, replaced(good, place, replaced(good[place], 2, good[4 - place][2])))
        self.check(False, good, replaced(MARKS, 1, 5))
        self.check(False, good, MARKS[:1])

    def test_any_shape_raises_nothing(self):
        good = paper(1, 17, 18)
        for shape in SHAPES + (deep(),):
            self.check(False, shape)
            for place in range(4):
                self.check(False, replaced(good, place, shape))
                self.check(False, (shape,) * place)
        for many in range(4):
            self.check(False, good[:many])
        self.check(False, (*good, good[0]))
        self.check(False, (good,))

    def test_different_cards(self):
        """The rows of the marks are a collision."""
        sealer = Sealer(3)
        marks = House(sealer, 2, 0).marks()
        found = accepted_papers(sealer, marks)
        different = [one for one in found if one[0] != one[2]]
        self.assertGreater(len(different), 10)
        for one in different:
            self.assertTrue(is_collision(sealer, row_of_card(one[0]), row_of_card(one[2])))
        for one in found:
            if one[0] == one[2]:
                self.assertNotEqual(opened_twice(sealer, one), [])

    def test_opened_twice(self):
        # 2 ** 60 has the last of the 61 bits alone.
        for value, other, places in ((0, 1, [0]), (6, 7, [0]), (0, 2 ** 60, [60]), (1, 2 ** 60, [0, 60]), (5, 6, [0, 1]),
                                     (0, 2 ** 60 + 40, [3, 5, 60]), (PRIME - 1, 0, list(range(1, 61)))):
            self.assertEqual(opened_twice(SEALER, paper(1, value, other)), places)
            self.assertEqual(opened_twice(SEALER, paper(1, other, value)), places)

    def test_opened_twice_with_small_moduli(self):
        for modulus in (3, 4, 7, 8):
            sealer = Sealer(modulus)
            house = House(sealer, 5, 0)
            for value, other in product(range(modulus), repeat=2):
                if value != other:
                    both = paper(0, value, other, house)
                    self.check(True, both, house.marks(), sealer)
                    places = [place for place in range(5) if (value ^ other) >> place & 1]
                    self.assertEqual(opened_twice(sealer, both), places)
                    for place in places:
                        pair = (both[1][2][place], both[3][2][place])
                        locks = {sealer.seal((7, key)) + 1 for key in pair}
                        self.assertEqual(locks, set(both[0][place]))


def accepted_papers(sealer, marks):
    """All papers for the epoch 0 with small keys that are accepted."""
    p = sealer.modulus()
    many = p.bit_length()
    cards = [card for card in product(product(range(1, p + 1), repeat=2), repeat=many)
             if sealer.seal(row_of_card(card)) == marks[0]]
    tellings = [(card, (0, value, keys)) for card in cards for value in range(p)
                for keys in product(range(4), repeat=many) if holds(sealer, marks, card, (0, value, keys))]
    # One of them is taken first, and the other one is any of those that are left.
    some = tellings[::7]
    return [(*one, *other) for one in some for other in tellings
            if check_paper(sealer, marks, (*one, *other))]


class OneValueTest(unittest.TestCase):
    """Point 135."""

    def test_papers_against_a_house_that_signed_one_value(self):
        sealer = Sealer(3)
        collisions, guesses = 0, 0
        for seed, value in ((2, 1), (5, 0)):
            house = House(sealer, seed, 0)
            card, statement = house.card(0), house.sign(0, value)
            for one in accepted_papers(sealer, house.marks()):
                other_cards = [shown for shown in (one[0], one[2]) if shown != card]
                untold = [place for shown in (one[1], one[3]) for place in range(2)
                          if (shown[1] ^ statement[1]) >> place & 1]
                self.assertTrue(other_cards or untold)
                for shown in other_cards:
                    self.assertTrue(is_collision(sealer, row_of_card(card), row_of_card(shown)))
                collisions += bool(other_cards)
                guesses += not other_cards
        self.assertGreater(collisions, 10)
        self.assertGreater(guesses, 10)

    def test_no_paper_from_one_statement_alone(self):
        """Changing an honest statement gives no paper, since the keys of other bits are not told."""
        card, statement = HOUSE.card(3), House(SEALER, 3, 4).sign(3, 1000)
        for place in range(N):
            other = (3, 1000 ^ 2 ** place, statement[2])
            self.assertIs(check_paper(SEALER, MARKS, (card, statement, card, other)), False)


class AuditorTest(unittest.TestCase):
    """Point 136."""

    def auditor(self, *values):
        """An auditor that heard pairs of an epoch and a value."""
        auditor = Auditor(SEALER, MARKS)
        for epoch, value in values:
            auditor.hear(*told(epoch, value))
        return auditor

    def test_nothing_heard(self):
        auditor = Auditor(SEALER, MARKS)
        self.assertEqual(auditor.kept(), {})
        for epoch in (-1, 0, 4, 5):
            self.assertIsNone(auditor.heard(epoch))
        self.assertEqual(auditor.meet(Auditor(SEALER, MARKS)), [])
        self.assertEqual(auditor.meet(auditor), [])

    def test_the_first_statement_is_kept(self):
        auditor = Auditor(SEALER, MARKS)
        self.assertIsNone(auditor.hear(*told(2, 50)))
        self.assertEqual(auditor.kept(), {2: 50})
        self.assertEqual(auditor.heard(2), told(2, 50))
        self.assertIsNone(auditor.hear(*told(2, 50)))
        self.assertEqual(auditor.hear(*told(2, 51)), paper(2, 50, 51))
        self.assertEqual(auditor.hear(*told(2, 49)), paper(2, 50, 49))
        self.assertIsNone(auditor.hear(*told(2, 50)))
        self.assertEqual(auditor.kept(), {2: 50})
        self.assertEqual(auditor.heard(2), told(2, 50))
        self.assertTrue(check_paper(SEALER, MARKS, auditor.hear(*told(2, 51))))

    def test_several_epochs(self):
        auditor = self.auditor((3, 30), (0, 0), (2, 20))
        self.assertEqual(auditor.kept(), {0: 0, 2: 20, 3: 30})
        self.assertEqual(auditor.heard(0), told(0, 0))
        for epoch in (-1, 1, 4, 5, 100):
            self.assertIsNone(auditor.heard(epoch))
        self.assertEqual(auditor.hear(*told(0, 20)), paper(0, 0, 20))

    def test_bad_statements(self):
        auditor = self.auditor((1, 10))
        card, statement = told(2, 50)
        for wrong in ((card, replaced(statement, 0, 1)), (card, replaced(statement, 1, 51)), (HOUSE.card(1), statement),
                      (card, replaced(statement, 2, ())), ((), ()), (5, statement), (card, 5)):
            with self.assertRaises(BadStatement):
                auditor.hear(*wrong)
        # A known value with wrong keys is bad, too.
        with self.assertRaises(BadStatement):
            auditor.hear(HOUSE.card(1), (1, 10, statement[2]))
        self.assertEqual(auditor.kept(), {1: 10})
        self.assertIsNone(auditor.heard(2))
        self.assertEqual(BadStatement.__bases__, (GroveError,))

    def test_statements_of_another_house(self):
        other = House(SEALER, 4, 4)
        with self.assertRaises(BadStatement):
            Auditor(SEALER, MARKS).hear(*told(2, 50, other))
        self.assertIsNone(Auditor(SEALER, other.marks()).hear(*told(2, 50, other)))

    def test_what_is_returned_can_be_changed(self):
        auditor = self.auditor((1, 10), (2, 20))
        kept = auditor.kept()
        kept[1] = 11
        del kept[2]
        self.assertEqual(auditor.kept(), {1: 10, 2: 20})
        other = self.auditor((1, 11))
        auditor.meet(other).clear()
        self.assertEqual(auditor.meet(other), [paper(1, 10, 11)])

    def test_marks_that_are_changed_afterwards(self):
        marks = list(MARKS)
        auditor = Auditor(SEALER, marks)
        marks.clear()
        self.assertIsNone(auditor.hear(*told(2, 50)))

    def test_meet(self):
        one = self.auditor((4, 40), (3, 30), (1, 10), (0, 5))
        other = self.auditor((0, 5), (1, 11), (2, 20), (4, 0))
        self.assertEqual(one.meet(other), [paper(1, 10, 11), paper(4, 40, 0)])
        self.assertEqual(other.meet(one), [paper(1, 11, 10), paper(4, 0, 40)])
        self.assertEqual((one.meet(one), other.meet(other)), ([], []))
        self.assertEqual((one.meet(Auditor(SEALER, MARKS)), Auditor(SEALER, MARKS).meet(one)), ([], []))
        self.assertEqual(one.kept(), {0: 5, 1: 10, 3: 30, 4: 40})
        self.assertEqual(other.kept(), {0: 5, 1: 11, 2: 20, 4: 0})

    def test_what_was_heard_later_does_not_count(self):
        one = self.auditor((1, 10), (1, 11))
        other = self.auditor((1, 10), (1, 12))
        self.assertEqual(one.meet(other), [])


class TwoTonguesTest(unittest.TestCase):
    """The last item of point 3."""

    def check(self, sealer, house, epoch, value, other):
        marks = house.marks()
        first, second = Auditor(sealer, marks), Auditor(sealer, marks)
        first.hear(house.card(epoch), house.sign(epoch, value))
        second.hear(house.card(epoch), house.sign_again(epoch, other))
        # What they hear afterwards changes nothing.
        first.hear(house.card(epoch), house.sign_again(epoch, other))
        for one, another in ((first, second), (second, first)):
            papers = one.meet(another)
            self.assertEqual(len(papers), 1)
            self.assertIs(check_paper(sealer, marks, papers[0]), True)
            self.assertIs(check_paper(sealer, marks, papers[0][2:] + papers[0][:2]), True)
            card, statement, other_card, other_statement = papers[0]
            if card == other_card:
                places = opened_twice(sealer, papers[0])
                self.assertNotEqual(places, [])
                for place in places:
                    locks = {sealer.seal((7, shown[2][place])) + 1 for shown in (statement, other_statement)}
                    self.assertEqual(locks, set(card[place]))
            else:
                self.assertTrue(is_collision(sealer, row_of_card(card), row_of_card(other_card)))

    def test_two_values_for_one_epoch(self):
        for epoch, value, other in ((0, 0, 1), (4, PRIME - 1, 0), (2, 123, 124), (1, 2 ** 60, 0)):
            self.check(SEALER, House(SEALER, 3, 4), epoch, value, other)

    def test_all_values_of_small_moduli(self):
        for modulus in (3, 4, 7, 8):
            sealer = Sealer(modulus)
            for value, other in product(range(modulus), repeat=2):
                if value != other:
                    self.check(sealer, House(sealer, modulus, 1), 1, value, other)


if __name__ == "__main__":
    unittest.main()
