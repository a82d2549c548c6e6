import unittest

from sumgrove.names import bit_at, is_name, number_of, parting
from tests.helper import CHARACTERS, bits_of

NAMES = ["0", "00", "01", "9", "9z", "_", "_0", "a", "a0", "ab", "abc", "abcdefg", "abcdefgh", "b", "bank",
         "mint", "z", "z0", "zz", "zzzzzzzy", "zzzzzzzz"]


class NamesTest(unittest.TestCase):
    """Points 10 and 11."""

    def test_names(self):
        for name in NAMES + list(CHARACTERS):
            self.assertIs(is_name(name), True, name)

    def test_texts_that_are_not_names(self):
        for text in ["", "abcdefghi", "000000000", "A", "aB", "Z", " ", "a ", " a", "a b", "a-b", "a.b", "\n", "a\n",
                     "\u00e4", "\u0661", "\u00df", "a\u0430", "@", "`", "{", "/", ":", "^"]:
            self.assertIs(is_name(text), False, repr(text))

    def test_number(self):
        self.assertEqual(number_of("a"), 52776558133248)
        self.assertEqual(number_of("0"), 1 << 42)
        self.assertEqual(number_of("zzzzzzzz"), int("100101" * 8, 2))
        for name in NAMES + list(CHARACTERS):
            self.assertEqual(number_of(name), int(bits_of(name), 2), name)

    def test_codes_in_the_order_of_the_characters(self):
        self.assertEqual([number_of(character) >> 42 for character in CHARACTERS], list(range(1, 38)))

    def test_bits(self):
        for name in NAMES:
            self.assertEqual("".join(str(bit_at(name, place)) for place in range(48)), bits_of(name), name)
        self.assertEqual(bit_at("z", 0), 1)
        self.assertEqual(bit_at("a", 0), 0)
        self.assertEqual(bit_at("zzzzzzzz", 47), 1)
        self.assertEqual(bit_at("zzzzzzzy", 47), 0)
        self.assertEqual(bit_at("z", 47), 0)

    def test_places_without_bits(self):
        for place in (-2, -1, 48, 49):
            self.assertEqual(bit_at("zzzzzzzz", place), 0)

    def test_order_of_numbers_is_order_of_texts(self):
        self.assertEqual(sorted(NAMES, key=number_of), sorted(NAMES))
        self.assertEqual(sorted(CHARACTERS, key=number_of), sorted(CHARACTERS))
        self.assertEqual(len({number_of(name) for name in NAMES}), len(NAMES))

    def test_parting(self):
        for first in NAMES:
            for second in NAMES:
                places = [place for place in range(48) if bits_of(first)[place] != bits_of(second)[place]]
                self.assertEqual(parting(first, second), min(places, default=None), (first, second))

    def test_parting_of_beginnings(self):
        self.assertEqual(parting("a", "a0"), 11)
        self.assertEqual(parting("a0", "a"), 11)
        self.assertEqual(parting("a", "az"), 6)
        self.assertEqual(parting("abcdefg", "abcdefg0"), 47)
        self.assertEqual(parting("abcdefg", "abcdefgz"), 42)

    def test_parting_of_equal_names(self):
        for name in NAMES:
            self.assertIsNone(parting(name, name))

    def test_first_and_last_place(self):
        self.assertEqual(parting("k", "z"), 0)
        self.assertEqual(parting("zzzzzzzz", "zzzzzzzy"), 47)


if __name__ == "__main__":
    unittest.main()
