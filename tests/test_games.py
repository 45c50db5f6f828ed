import random
import unittest
from fractions import Fraction

from hostfields.games import table_worth, worth_over
from helper import BIG, HostTest, pair


class GamesTest(HostTest):
    def solves(self, table, worth=None):
        """See that each side keeps to the worth by its weights whatever the other one picks: so it is the worth."""
        told = self.told(table_worth, table)
        self.assertEqual(told[0], pair(Fraction(*told[0])))
        self.keeps_to(Fraction(*told[0]), told[1], told[2], table)
        if worth is not None:
            self.assertEqual(Fraction(*told[0]), worth)

    def test_by_hand(self):
        self.tells(((5, 1), [1], [1]), table_worth, [[5]])
        self.tells(((0, 1), [1, 1], [1, 1]), table_worth, [[1, -1], [-1, 1]])
        self.tells(((2, 3), [1, 2], [1, 2]), table_worth, [[2, 0], [0, 1]])
        self.tells(((3, 1), [0, 1], [1, 0]), table_worth, [[1, 9], [3, 4]])
        self.tells(((-7, 2), [1, 1], [1, 1]), table_worth, [[-3, -4], [-4, -3]])

    def test_one_row_or_one_column(self):
        self.solves([[4, -2, 9, -2]], -2)
        self.solves([[4], [-2], [9], [9]], 9)

    def test_rows_and_columns_alike(self):
        for many in range(1, 8):
            self.solves([[0] * many for row in range(many)], 0)
            self.solves([[-BIG] * many] * 3, -BIG)
            table = [[int(row == column) for column in range(many)] for row in range(many)]
            self.solves(table, Fraction(1, many))
            self.solves([row * 2 for row in table] * 2, Fraction(1, many))

    def test_stone_paper_scissors_of_many(self):
        for many in (3, 5, 7, 9):
            wins = [0] + [1] * (many // 2) + [-1] * (many // 2)
            self.solves([[wins[(column - row) % many] for column in range(many)] for row in range(many)], 0)

    def test_drawn(self):
        draw = random.Random(21)
        for most in (1, 2, 10, BIG):
            for trial in range(60):
                rows = draw.randint(1, 8)
                columns = draw.randint(1, 8)
                self.solves([[draw.randint(-most, most) for column in range(columns)] for row in range(rows)])

    def test_drawn_even(self):
        draw = random.Random(22)
        for many in range(1, 12):
            table = [[0] * many for row in range(many)]
            for row in range(many):
                for column in range(row):
                    table[row][column] = draw.randint(-3, 3)
                    table[column][row] = -table[row][column]
            self.solves(table, 0)

    def test_thirty_by_thirty(self):
        draw = random.Random(23)
        for most in (1, BIG):
            self.solves([[draw.randint(-most, most) for column in range(30)] for row in range(30)])

    def test_rows_over_bottoms_of_their_own(self):
        self.tells(((2, 3), [1, 2], [1, 2]), worth_over, [[4, 0], [0, 3]], [2, 3])
        self.tells(((-5, 2), [1], [1]), worth_over, [[-5]], [2])
        draw = random.Random(24)
        for most in (1, 10, BIG):
            for trial in range(60):
                width = draw.randint(1, 6)
                table = [[draw.randint(-most, most) for column in range(width)] for row in range(draw.randint(1, 6))]
                bottoms = [draw.randint(1, draw.choice((1, 9, BIG))) for row in table]
                fractions = [[Fraction(number, bottom) for number in row] for row, bottom in zip(table, bottoms)]
                worth, rows, columns = self.told(worth_over, table, bottoms)
                self.assertEqual(worth, pair(Fraction(*worth)))
                self.keeps_to(Fraction(*worth), rows, columns, fractions)


if __name__ == "__main__":
    unittest.main()
