"""The exact worth of a table: one side picks a row and wins the number, the other, unseen, a column."""

from hostfields.grids import Grid, column_weights, lowest, row_weights, turn_to_end
from hostfields.ratios import ratio


def table_worth(table):
    """A tuple of the worth, a fraction, the rows' weights and the columns' weights, whole numbers from 0 on."""
    return worth_over(table, [1] * len(table))


def worth_over(table, bottoms):
    """As table_worth, of a table in which the numbers of each row stand over its bottom, a number from 1 on."""
    # With all numbers above 0 the worth is above 0 too: so what is sought is how little weight wins 1.
    lift = 1 - min([min(row) // bottom for row, bottom in zip(table, bottoms)])
    grid = Grid([lifted(row, lift * bottom) for row, bottom in zip(table, bottoms)], bottoms)
    turn_to_end(grid)
    little = grid.numbers[-1][-1]
    # A row's weight was found for its numbers without their bottom.
    rows = [weight * bottom for weight, bottom in zip(row_weights(grid), bottoms)]
    return (ratio(grid.divisor - lift * little, little), lowest(rows), column_weights(grid))


def lifted(row, lift):
    return [number + lift for number in row]
