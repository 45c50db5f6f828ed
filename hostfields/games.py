"""The exact worth of a table of whole numbers: one side picks a row and wins the number, the other, unseen, a column.

It is found by the simplex way over whole numbers. All numbers of a grid stand over one divisor, the number that it
was last turned about: so dividing by it leaves no rest, and they grow no longer than the table's determinants.
"""

from hostfields.ratios import common_divisor, plus, ratio


class Grid:
    def __init__(self, table):
        width = len(table[0])
        self.numbers = [row + [1] for row in table]
        self.numbers.append([-1] * width + [0])
        self.divisor = 1
        # What the grid's columns and rows stand for: the table's columns by their numbers, its rows by those behind.
        self.across = list(range(width))
        self.down = list(range(width, width + len(table)))


def table_worth(table):
    """A tuple of the worth, a fraction, the rows' weights and the columns' weights, whole numbers from 0 on."""
    # With all numbers above 0 the worth is above 0 too: so what is sought is how little weight wins 1.
    lift = 1 - min([min(row) for row in table])
    grid = Grid([lifted(row, lift) for row in table])
    turn_to_end(grid)
    worth = plus(ratio(grid.divisor, grid.numbers[-1][-1]), (-lift, 1))
    width = len(table[0])
    row_weights = weights_by_name(grid.across, grid.numbers[-1], width, width + len(table))
    column_weights = weights_by_name(grid.down, [row[-1] for row in grid.numbers], 0, width)
    return (worth, lowest(row_weights), lowest(column_weights))


def lifted(row, lift):
    return [number + lift for number in row]


def turn_to_end(grid):
    column = column_to_turn(grid)
    while column is not None:
        turn(grid, row_to_turn(grid, column), column)
        column = column_to_turn(grid)


# Here and among rows that bind alike the least name goes first: so turns that win nothing never come round again.
def column_to_turn(grid):
    names = grid.across
    falling = [column for column in range(len(names)) if grid.numbers[-1][column] < 0]
    return min(falling, key=lambda column: names[column], default=None)


def row_to_turn(grid, column):
    best = None
    for row in range(len(grid.down)):
        if grid.numbers[row][column] > 0 and (best is None or binds_ahead(grid, column, row, best)):
            best = row
    return best


def binds_ahead(grid, column, one, other):
    near = grid.numbers[one][-1] * grid.numbers[other][column]
    far = grid.numbers[other][-1] * grid.numbers[one][column]
    return near < far or (near == far and grid.down[one] < grid.down[other])


def turn(grid, row, column):
    about = grid.numbers[row]
    turned = [turned_row(numbers, about, column, grid.divisor) for numbers in grid.numbers]
    turned[row] = list(about)
    turned[row][column] = grid.divisor
    grid.numbers = turned
    grid.divisor = about[column]
    name = grid.down[row]
    grid.down[row] = grid.across[column]
    grid.across[column] = name


def turned_row(numbers, about, column, divisor):
    pivot = about[column]
    factor = numbers[column]
    told = [(number * pivot - factor * there) // divisor for number, there in zip(numbers, about)]
    told[column] = -factor
    return told


def weights_by_name(names, weights, start, end):
    by_name = dict(zip(names, weights))
    return [by_name.get(name, 0) for name in range(start, end)]


def lowest(weights):
    divisor = 0
    for weight in weights:
        divisor = common_divisor(divisor, weight)
    return [weight // divisor for weight in weights]
