import unittest

from sumgrove.names import number_of
from sumgrove.seals import Sealer
from sumgrove.trees import root_of, row_of, summary_of, top_row
from tests.helper import SEALER, leaf, told_cut

A = leaf("a", (5, 6), (7, 8, 9))
B = leaf("b", (10, 0))
TAIL = told_cut(seal=44, count=3, sums=(1, 2), least="e", greatest="h")
A_ROW = (0, 52776558133248, 2, 5, 6, 7, 8, 9)
B_ROW = (0, number_of("b"), 2, 10, 0)


class RowsTest(unittest.TestCase):
    """Points 21, 23 and 24."""

    def test_leaf(self):
        self.assertEqual(row_of(SEALER, A), A_ROW)
        self.assertEqual(row_of(SEALER, B), B_ROW)
        self.assertEqual(summary_of(SEALER, A), (SEALER.seal(A_ROW), 1, (5, 6), "a", "a"))

    def test_branch(self):
        branch = ("branch", A, B)
        row = (1, 2, SEALER.seal(A_ROW), 1, 5, 6, number_of("a"), number_of("a"),
               SEALER.seal(B_ROW), 1, 10, 0, number_of("b"), number_of("b"))
        self.assertEqual(row_of(SEALER, branch), row)
        self.assertEqual(summary_of(SEALER, branch), (SEALER.seal(row), 2, (15, 6), "a", "b"))

    def test_cut(self):
        self.assertEqual(summary_of(SEALER, TAIL), (44, 3, (1, 2), "e", "h"))

    def test_branch_of_branch_and_cut(self):
        left = summary_of(SEALER, ("branch", A, B))
        row = (1, 2, left[0], 2, 15, 6, number_of("a"), number_of("b"), 44, 3, 1, 2, number_of("e"), number_of("h"))
        tree = ("branch", ("branch", A, B), TAIL)
        self.assertEqual(row_of(SEALER, tree), row)
        self.assertEqual(summary_of(SEALER, tree), (SEALER.seal(row), 5, (16, 8), "a", "h"))

    def test_top_rows_and_roots(self):
        for tree in (A, ("branch", A, B), TAIL, ("branch", A, TAIL)):
            seal, count, sums, least, greatest = summary_of(SEALER, tree)
            row = (3, 2, seal, count, *sums, number_of(least), number_of(greatest))
            self.assertEqual(top_row(SEALER, tree), row)
            self.assertEqual(root_of(SEALER, tree), SEALER.seal(row))

    def test_top_row_of_one_and_three_kinds(self):
        number = number_of("a")
        self.assertEqual(top_row(SEALER, leaf("a", (4,)))[:2], (3, 1))
        self.assertEqual(top_row(SEALER, leaf("a", (4, 5, 6)))[3:], (1, 4, 5, 6, number, number))
        self.assertEqual(row_of(SEALER, leaf("a", (4,))), (0, number, 1, 4))

    def test_empty_tree(self):
        self.assertEqual(top_row(SEALER, None), (2,))
        self.assertEqual(root_of(Sealer(101), None), 44)
        self.assertEqual(root_of(SEALER, None), SEALER.seal((2,)))

    def test_a_cut_has_the_root_of_its_part(self):
        tree = ("branch", A, B)
        self.assertEqual(root_of(SEALER, ("cut", summary_of(SEALER, tree))), root_of(SEALER, tree))


if __name__ == "__main__":
    unittest.main()
