import unittest

from sumgrove.errors import InvalidSealer
from sumgrove.seals import Sealer, is_collision
from tests.helper import PRIME, outcome


def seal_by_hand(modulus, row):
    value = 1
    for number in list(row) + [len(row)]:
        value = (value ** 3 + 5 * value + 3 * number + 1) % modulus
    return value


class SealsTest(unittest.TestCase):
    """Points 12 and 13."""

    def test_seal_of_the_interface(self):
        self.assertEqual(Sealer(101).seal((2,)), 44)

    def test_seals_by_hand(self):
        # 1 -> 1 + 5 + 0 + 1 = 7 for the length 0 of the row ().
        self.assertEqual(Sealer(101).seal(()), 7)
        self.assertEqual(Sealer(3).seal(()), 1)
        # 1 -> 7 for the number 0; 7 -> 343 + 35 + 3 + 1 = 382 for the length 1.
        self.assertEqual(Sealer(PRIME).seal((0,)), 382)
        self.assertEqual(Sealer(101).seal((0,)), 79)

    def test_rows_of_all_lengths_and_sizes(self):
        rows = [(), (0,), (1,), (0, 0), (1, 2, 3), (10 ** 24,), (PRIME,), (PRIME - 1, PRIME + 1, 10 ** 40),
                tuple(range(60))]
        for modulus in (3, 4, 101, PRIME - 1, PRIME):
            for row in rows:
                self.assertEqual(Sealer(modulus).seal(row), seal_by_hand(modulus, row), (modulus, row))

    def test_moduli(self):
        for modulus in (3, 4, PRIME - 1, PRIME):
            self.assertEqual(Sealer(modulus).modulus(), modulus)
        for modulus in (2, 1, 0, -3, PRIME + 1, PRIME * 2):
            self.assertEqual(outcome(Sealer, modulus), ("InvalidSealer", {"modulus": modulus}))

    def test_error_of_the_modulus(self):
        with self.assertRaises(InvalidSealer):
            Sealer(2305843009213693952)

    def test_is_collision(self):
        sealer = Sealer(3)
        self.assertEqual(sealer.seal((0,)), sealer.seal((1,)))
        self.assertIs(is_collision(sealer, (0,), (1,)), True)
        self.assertIs(is_collision(sealer, (1,), (0,)), True)
        self.assertIs(is_collision(sealer, (0,), (0,)), False)
        self.assertIs(is_collision(Sealer(101), (0,), (1,)), False)
        self.assertIs(is_collision(Sealer(101), (5,), (5,)), False)


if __name__ == "__main__":
    unittest.main()
