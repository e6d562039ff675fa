"""Sums of a few rows of numbers: the rows brought down to steps, and what can be told from these.

Steps are rows that stand one below the other such that the first number other than 0 of each, in its own column,
has only zeros below it. Each sum of the rows is a sum of the steps, and the other way round.
"""


def steps_of(rows):
    """The triple (steps, made, columns) for rows of equally many numbers.

    columns are those of the first numbers of the steps. made tells for each step of which sum of the rows it is made,
    and behind these such sums that give nothing but zeros.
    """
    steps = [list(row) for row in rows]
    made = [[1 if j == k else 0 for j in range(len(rows))] for k in range(len(rows))]
    columns = []
    for column in range(len(rows[0])):
        if bring_down(steps, made, column, len(columns)):
            columns.append(column)
    return steps[:len(columns)], made, columns


def bring_down(steps, made, column, top):
    """Makes the numbers of a column 0 below the row at top; whether another number than 0 is left in that row."""
    left = rows_left(steps, column, top)
    while left:
        least = left[0]
        for k in left:
            if abs(steps[k][column]) < abs(steps[least][column]):
                least = k
        steps[top], steps[least] = steps[least], steps[top]
        made[top], made[least] = made[least], made[top]
        for k in range(top + 1, len(steps)):
            many = steps[k][column] // steps[top][column]
            steps[k] = less_row(steps[k], many, steps[top])
            made[k] = less_row(made[k], many, made[top])
        if len(left) == 1:
            return True
        left = rows_left(steps, column, top)
    return False


def rows_left(steps, column, top):
    """The positions from top on of the rows with another number than 0 in a column."""
    return [k for k in range(top, len(steps)) if steps[k][column] != 0]


def less_row(row, many, other):
    """A row less another one times an integer."""
    return [a - many * b for a, b in zip(row, other)]


def size_of(steps, columns):
    """The product of the first numbers of all steps, without its sign."""
    size = 1
    for step, column in zip(steps, columns):
        size *= abs(step[column])
    return size


def shares_of(steps, columns, row):
    """The integers with which the steps add up to a row, in their columns; there have to be such."""
    shares = []
    for k, column in enumerate(columns):
        number = row[column]
        for share, step in zip(shares, steps):
            number -= share * step[column]
        shares.append(number // steps[k][column])
    return shares


def weights_of(steps, columns, wanted):
    """The weights for the columns that give each step its wanted number; there have to be such integers."""
    weights = []
    for k in reversed(range(len(steps))):
        number = wanted[k]
        for column, weight in zip(columns[k + 1:], weights):
            number -= steps[k][column] * weight
        weights = [number // steps[k][columns[k]]] + weights
    return weights


def sum_of(shares, rows, column):
    """The number in a column of the sum of rows, each times its share."""
    return sum([share * row[column] for share, row in zip(shares, rows)])
