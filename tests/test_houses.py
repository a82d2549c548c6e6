import unittest

from sumgrove.errors import GroveError
from sumgrove.houses import House
from sumgrove.refusals import InvalidHouse
from sumgrove.seals import Sealer
from tests.helper import PRIME, SEALER, outcome

MODULI = (3, 4, 7, 8, 101, 1023, 1024, PRIME)


def seal(modulus, row):
    """Point 12, once more."""
    value = 1
    for number in (*row, len(row)):
        value = (value ** 3 + 5 * value + 3 * number + 1) % modulus
    return value


def key_of(modulus, seed, epoch, place, bit):
    return seal(modulus, (9, seed, epoch, place, bit))


def card_of(modulus, seed, epoch):
    return tuple(
        tuple(seal(modulus, (7, key_of(modulus, seed, epoch, place, bit))) + 1 for bit in (0, 1))
        for place in range(len(f"{modulus:b}"))
    )


def mark_of(modulus, card):
    return seal(modulus, (11,) + sum(card, ()))


def statement_of(modulus, seed, epoch, value):
    many = len(f"{modulus:b}")
    bits = f"{value:0{many}b}"[::-1]
    return (epoch, value, tuple(key_of(modulus, seed, epoch, place, int(bit)) for place, bit in enumerate(bits)))


def no_such(epoch):
    return ("NoSuchEpoch", {"epoch": epoch})


class CardsTest(unittest.TestCase):
    """Points 130 and 131."""

    def test_cards_and_marks(self):
        for modulus in MODULI:
            for seed in (0, 1, 77, 10 ** 30):
                house = House(Sealer(modulus), seed, 3)
                for epoch in range(4):
                    self.assertEqual(house.card(epoch), card_of(modulus, seed, epoch))
                self.assertEqual(house.marks(), tuple(mark_of(modulus, house.card(epoch)) for epoch in range(4)))

    def test_number_of_pairs(self):
        for modulus, pairs in ((3, 2), (4, 3), (7, 3), (8, 4), (1023, 10), (1024, 11), (PRIME, 61)):
            card = House(Sealer(modulus), 5, 0).card(0)
            self.assertEqual(len(card), pairs)
            self.assertEqual({len(pair) for pair in card}, {2})
            self.assertTrue(all(1 <= lock <= modulus for pair in card for lock in pair))

    def test_a_small_house_in_numbers(self):
        house = House(Sealer(7), 0, 1)
        self.assertEqual(house.card(1), ((1, 1), (1, 1), (4, 5)))
        self.assertEqual(house.marks(), (1, 1))
        self.assertEqual(house.sign(1, 2), (1, 2, (1, 2, 6)))

    def test_seeds_epochs_places_and_bits_count(self):
        cards = [House(SEALER, seed, 9).card(epoch) for seed in range(5) for epoch in range(10)]
        locks = [lock for card in cards for pair in card for lock in pair]
        self.assertEqual(len(set(locks)), len(locks))

    def test_marks_of_all_epochs(self):
        for last in (0, 1, 49, 50):
            house = House(Sealer(101), 6, last)
            marks = house.marks()
            self.assertIsInstance(marks, tuple)
            self.assertEqual(marks, tuple(mark_of(101, card_of(101, 6, epoch)) for epoch in range(last + 1)))

    def test_card_of_an_epoch_that_there_is_not(self):
        for last in (0, 3, 50):
            house = House(SEALER, 6, last)
            self.assertEqual(outcome(house.card, last)[0], "returned")
            for epoch in (-1, last + 1, 1000):
                self.assertEqual(outcome(house.card, epoch), no_such(epoch))

    def test_seeds_and_last_epochs(self):
        for seed, last in ((0, 0), (0, 50), (10 ** 40, 50)):
            House(SEALER, seed, last)
        for seed, last in ((-1, 0), (-5, 50), (0, -1), (0, 51), (0, 1000), (-1, -1)):
            with self.assertRaises(InvalidHouse):
                House(SEALER, seed, last)
        self.assertEqual(InvalidHouse.__bases__, (GroveError,))


class SignTest(unittest.TestCase):
    """Point 132."""

    def test_statements(self):
        for modulus in MODULI:
            house = House(Sealer(modulus), 8, 2)
            for epoch, value in enumerate((0, 1, modulus - 1)):
                statement = statement_of(modulus, 8, epoch, value)
                self.assertEqual(house.sign(epoch, value), statement)
                self.assertEqual(house.sign_again(epoch, value), statement)

    def test_all_values(self):
        house = House(Sealer(11), 8, 0)
        for value in range(11):
            self.assertEqual(house.sign_again(0, value), statement_of(11, 8, 0, value))

    def test_the_lowest_bit_is_first(self):
        house = House(Sealer(101), 8, 1)
        keys = house.sign(1, 6)[2]
        self.assertEqual(keys, tuple(key_of(101, 8, 1, place, bit) for place, bit in enumerate((0, 1, 1, 0, 0, 0, 0))))

    def test_invalid_values(self):
        for modulus in MODULI:
            house = House(Sealer(modulus), 8, 2)
            for method in (house.sign, house.sign_again):
                for value in (-1, modulus, modulus + 5):
                    self.assertEqual(outcome(method, 1, value), ("InvalidValue", {"value": value}))
                    self.assertEqual(outcome(method, 3, value), no_such(3))
                    self.assertEqual(outcome(method, -1, value), no_such(-1))
                self.assertEqual(outcome(method, 3, 0), no_such(3))
                self.assertEqual(outcome(method, -1, 0), no_such(-1))

    def test_invalid_values_are_told_before_signed_already(self):
        house = House(SEALER, 8, 2)
        house.sign(1, 5)
        self.assertEqual(outcome(house.sign, 1, -1), ("InvalidValue", {"value": -1}))
        self.assertEqual(outcome(house.sign, 1, PRIME), ("InvalidValue", {"value": PRIME}))

    def test_signed_already(self):
        house = House(SEALER, 8, 2)
        statement = house.sign(1, 5)
        for value in (0, 4, 6, PRIME - 1):
            self.assertEqual(outcome(house.sign, 1, value), ("SignedAlready", {"epoch": 1}))
        self.assertEqual(house.sign(1, 5), statement)
        self.assertEqual(house.sign(0, 6), statement_of(PRIME, 8, 0, 6))
        self.assertEqual(house.sign(2, 5), statement_of(PRIME, 8, 2, 5))
        self.assertEqual(outcome(house.sign, 0, 5), ("SignedAlready", {"epoch": 0}))

    def test_signed_already_with_the_value_0(self):
        house = House(SEALER, 8, 0)
        house.sign(0, 0)
        self.assertEqual(outcome(house.sign, 0, 1), ("SignedAlready", {"epoch": 0}))
        self.assertEqual(house.sign(0, 0), statement_of(PRIME, 8, 0, 0))

    def test_sign_again_does_not_count(self):
        house = House(SEALER, 8, 2)
        self.assertEqual(house.sign_again(1, 5), statement_of(PRIME, 8, 1, 5))
        self.assertEqual(house.sign(1, 6), statement_of(PRIME, 8, 1, 6))
        self.assertEqual(house.sign_again(1, 7), statement_of(PRIME, 8, 1, 7))
        self.assertEqual(house.sign(1, 6), statement_of(PRIME, 8, 1, 6))
        self.assertEqual(outcome(house.sign, 1, 5), ("SignedAlready", {"epoch": 1}))
        self.assertEqual(outcome(house.sign, 1, 7), ("SignedAlready", {"epoch": 1}))

    def test_a_refused_sign_changes_nothing(self):
        house = House(SEALER, 8, 2)
        outcome(house.sign, 1, -1)
        outcome(house.sign, 1, PRIME)
        self.assertEqual(house.sign(1, 5), statement_of(PRIME, 8, 1, 5))
        outcome(house.sign, 1, 6)
        self.assertEqual(house.sign(1, 5), statement_of(PRIME, 8, 1, 5))
        self.assertEqual(outcome(house.sign, 1, 6), ("SignedAlready", {"epoch": 1}))

    def test_houses_do_not_share_what_they_signed(self):
        House(SEALER, 8, 2).sign(1, 5)
        self.assertEqual(House(SEALER, 8, 2).sign(1, 6), statement_of(PRIME, 8, 1, 6))


if __name__ == "__main__":
    unittest.main()
