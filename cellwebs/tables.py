"""Reckoning with tables: lists of moves, as many as each of them has numbers."""


def determinant(table):
    """The determinant of a table."""
    if not table:
        return 1
    total = 0
    for at, number in enumerate(table[0]):
        total = total + number * cofactor(table, 0, at)
    return total


def cofactor(table, row, column):
    """The determinant of a table without a row and a column, times -1 if their numbers have an odd sum."""
    rest = [line[:column] + line[column + 1:] for at, line in enumerate(table) if at != row]
    return determinant(rest) if (row + column) % 2 == 0 else -determinant(rest)


def adjugate(table):
    """The table that, times a table, gives the determinant along the diagonal, and noughts elsewhere."""
    size = range(len(table))
    return [tuple([cofactor(table, row, at) for row in size]) for at in size]


def carried(move, table):
    """A move times a table: the sum of the rows, each times the number of the move at its place."""
    return tuple([sum([number * row[at] for number, row in zip(move, table)]) for at in range(len(move))])


def dot(move, other):
    """The sum of the numbers of a move, each times the number of the other one at its place."""
    return sum([number * more for number, more in zip(move, other)])
