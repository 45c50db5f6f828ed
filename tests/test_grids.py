import random
import unittest
from fractions import Fraction

from hostfields.grids import Grid, column_weights, lay_column, lay_row, row_weights, turn_to_end
from helper import BIG, HostTest


class GridsTest(HostTest):
    def holds(self, grid, table):
        worth = Fraction(grid.divisor, grid.numbers[-1][-1])
        self.keeps_to(worth, row_weights(grid), column_weights(grid), table)

    def grows(self, table, order):
        """Begin with the first row and column, and lay the others to it in an order of "row" and "column"."""
        grid = Grid([table[0][:1]], [1])
        turn_to_end(grid)
        rows, columns = 1, 1
        for word in order:
            if word == "row":
                lay_row(grid, table[rows][:columns])
                rows += 1
            else:
                lay_column(grid, [row[columns] for row in table[:rows]])
                columns += 1
            self.holds(grid, [row[:columns] for row in table[:rows]])

    def test_grown_grids(self):
        draw = random.Random(25)
        for trial in range(150):
            most = draw.choice((1, 2, 3, 9, BIG))
            rows, columns = draw.randint(1, 7), draw.randint(1, 7)
            table = [[draw.randint(1, most) for column in range(columns)] for row in range(rows)]
            order = ["row"] * (rows - 1) + ["column"] * (columns - 1)
            draw.shuffle(order)
            self.grows(table, order)

    def test_rows_and_columns_that_are_there_already(self):
        for numbers in ([[1, 1], [1, 1]], [[2, 1], [1, 2]], [[1, 3], [2, 1]]):
            table = [row * 3 for row in numbers] * 3
            self.grows(table, ["row", "column"] * 5)
            self.grows(table, ["row"] * 5 + ["column"] * 5)
            self.grows(table, ["column"] * 5 + ["row"] * 5)

    def test_what_is_laid_to_it_is_not_changed(self):
        grid = Grid([[2, 1]], [1])
        turn_to_end(grid)
        row, column = [1, 2], [3, 3]
        lay_row(grid, row)
        lay_column(grid, column)
        self.assertEqual([row, column], [[1, 2], [3, 3]])


if __name__ == "__main__":
    unittest.main()
