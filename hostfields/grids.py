"""Grids: tables of whole numbers that are turned, by the simplex way, until both sides' weights can be read from them.

The one side picks a row and wins the number, the other, unseen, picks a column. All numbers of a grid stand over one
divisor, the number that it was last turned about: so dividing by it leaves no rest, and they grow no longer than the
table's determinants.
"""

from hostfields.ratios import common_divisor


class Grid:
    # The table's numbers are above 0; those of a row stand over the row's bottom.
    def __init__(self, table, bottoms):
        width = len(table[0])
        self.numbers = [row + [bottom] for row, bottom in zip(table, bottoms)]
        self.numbers.append([-1] * width + [0])
        self.divisor = 1
        # What the grid's columns and rows stand for, at first the table's own. Turning a grid exchanges a name of
        # these with one of those: a column has weight where it has come down, a row where it has come across.
        self.across = [("column", number) for number in range(width)]
        self.down = [("row", number) for number in range(len(table))]


def turn_to_end(grid):
    column = column_to_turn(grid)
    while column is not None:
        turn(grid, row_to_turn(grid, column), column)
        column = column_to_turn(grid)


# Here and among rows that bind alike the least name goes first: so turns that win nothing never come round again.
def column_to_turn(grid):
    names = grid.across
    falling = [column for column in range(len(names)) if grid.numbers[-1][column] < 0]
    return min(falling, key=lambda column: names[column], default=None)


def row_to_turn(grid, column):
    best = None
    for row in range(len(grid.down)):
        if grid.numbers[row][column] > 0 and (best is None or row_binds_ahead(grid, column, row, best)):
            best = row
    return best


def row_binds_ahead(grid, column, one, other):
    near = grid.numbers[one][-1] * grid.numbers[other][column]
    far = grid.numbers[other][-1] * grid.numbers[one][column]
    return near < far or (near == far and grid.down[one] < grid.down[other])


# A row that was laid to a turned grid may not hold yet; the grid is then turned the other way about, with the same
# rule of the least name.
def mend_to_end(grid):
    row = row_to_mend(grid)
    while row is not None:
        turn(grid, row, column_to_mend(grid, row))
        row = row_to_mend(grid)


def row_to_mend(grid):
    names = grid.down
    lacking = [row for row in range(len(names)) if grid.numbers[row][-1] < 0]
    return min(lacking, key=lambda row: names[row], default=None)


def column_to_mend(grid, row):
    best = None
    for column in range(len(grid.across)):
        if grid.numbers[row][column] < 0 and (best is None or column_binds_ahead(grid, row, column, best)):
            best = column
    return best


def column_binds_ahead(grid, row, one, other):
    # Both numbers of the row are below 0, so the greater product is the nearer bound.
    near = grid.numbers[-1][one] * grid.numbers[row][other]
    far = grid.numbers[-1][other] * grid.numbers[row][one]
    return near > far or (near == far and grid.across[one] < grid.across[other])


def turn(grid, row, column):
    about = grid.numbers[row]
    turned = [turned_row(numbers, about, column, grid.divisor) for numbers in grid.numbers]
    turned[row] = list(about)
    turned[row][column] = grid.divisor
    # The divisor is kept above 0, so that a number's sign is that of what it stands for.
    grid.numbers = turned if about[column] > 0 else [negated(numbers) for numbers in turned]
    grid.divisor = abs(about[column])
    name = grid.down[row]
    grid.down[row] = grid.across[column]
    grid.across[column] = name


def turned_row(numbers, about, column, divisor):
    pivot = about[column]
    factor = numbers[column]
    told = [(number * pivot - factor * there) // divisor for number, there in zip(numbers, about)]
    told[column] = -factor
    return told


def negated(numbers):
    return [-number for number in numbers]


def number_of(name, word, numbers):
    return numbers[name[1]] if name[0] == word else 0


def lay_row(grid, table_row):
    """Lay one row more to a grid that is turned to its end, and turn it to its end again."""
    told = [grid.divisor * number_of(name, "column", table_row) for name in grid.across] + [grid.divisor]
    for name, row in zip(grid.down, grid.numbers):
        factor = number_of(name, "column", table_row)
        told = [number - factor * there for number, there in zip(told, row)]
    grid.numbers.insert(len(grid.down), told)
    grid.down.append(("row", len(grid.down)))
    mend_to_end(grid)


def lay_column(grid, table_column):
    """Lay one column more to a grid that is turned to its end, and turn it to its end again."""
    factors = [number_of(name, "row", table_column) for name in grid.across]
    own = [grid.divisor * number_of(name, "row", table_column) for name in grid.down] + [-grid.divisor]
    grid.numbers = [with_column(row, number, factors) for row, number in zip(grid.numbers, own)]
    grid.across.append(("column", len(grid.across)))
    turn_to_end(grid)


def with_column(row, number, factors):
    told = number + sum([factor * there for factor, there in zip(factors, row)])
    return row[:-1] + [told, row[-1]]


def row_weights(grid):
    return lowest(weights_by_name("row", len(grid.down), grid.across, grid.numbers[-1]))


def column_weights(grid):
    return lowest(weights_by_name("column", len(grid.across), grid.down, [row[-1] for row in grid.numbers]))


def weights_by_name(word, many, names, weights):
    by_name = dict(zip(names, weights))
    return [by_name.get((word, number), 0) for number in range(many)]


def lowest(weights):
    divisor = 0
    for weight in weights:
        divisor = common_divisor(divisor, weight)
    return [weight // divisor for weight in weights]
