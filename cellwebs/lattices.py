"""All sums of whole multiples of some moves, told by rows.

Rows are a list of moves in a form that only one list has for given sums:
the first number that is not 0 stands in each row further on than in the one
before it, and is above 0; the numbers at its place in the rows before it are
at least 0 and less than it.
"""

from cellwebs.moves import lead, less, times, turned_about


def reduced(moves):
    """The rows with the same sums as these moves, all of one length."""
    rows = []
    for move in moves:
        # Tidied after each move, the rows stay as small as their form lets them.
        rows = tidied(with_move(rows, move))
    return rows


def with_move(rows, move):
    """Moves with the same sums as rows and a move: a list, each with its lead further on."""
    by_lead = {lead(row): row for row in rows}
    at = lead(move)
    while at is not None:
        row = by_lead.get(at, (0,) * len(move))
        while move[at] != 0:
            row, move = move, less(row, times(move, row[at] // move[at]))
        by_lead[at] = row
        at = lead(move)
    return [by_lead[at] for at in sorted(by_lead)]


def tidied(moves):
    """The rows with the same sums as moves that have each its lead further on."""
    rows = []
    for move in moves:
        at = lead(move)
        row = move if move[at] > 0 else turned_about(move)
        rows = [less(above, times(row, above[at] // row[at])) for above in rows] + [row]
    return rows


def multiples(rows, move):
    """The tuple of the whole multiples of rows whose sum is a move, None if there are none."""
    found, rest = divided(rows, move)
    return found if lead(rest) is None else None


def divided(rows, move):
    """The whole multiples of rows that can be taken off a move, and what is left: (multiples, rest).

    With as many rows as a move has numbers, the same is left of two moves
    exactly if one comes from the one to the other by sums of multiples.
    """
    found = []
    rest = move
    for row in rows:
        at = lead(row)
        many = rest[at] // row[at]
        found.append(many)
        rest = less(rest, times(row, many))
    return tuple(found), rest
