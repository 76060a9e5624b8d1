"""Proving that a program orders every row, and that it keeps equal ones in order."""

from sortforge.running import run
from sortforge.trying import blocks_of_rows, check_program, tried


def orders(program, places):
    """Whether the program orders every row of so many things."""
    return witness(program, places) is None


def witness(program, places):
    """The least row of noughts and ones that the program doesn't order, None where there is none."""
    check_program(program, places)
    for columns in blocks_of_rows(places):
        behind, _ = tried(program, columns)
        wrong = _rows_out_of_order(behind)
        if wrong != 0:
            least = (wrong & -wrong).bit_length() - 1
            return tuple([(column >> least) & 1 for column in columns])
    return None


def _rows_out_of_order(columns):
    """A bit for each row, one where a one stands right ahead of a nought."""
    wrong = 0
    for ahead, behind in zip(columns, columns[1:]):
        wrong = wrong | (ahead & ~behind)
    return wrong


def keeps(program, places):
    """Whether the program keeps equal ones in order, whatever the row of so many things."""
    check_program(program, places)
    return all(_keeps_ones(run(program, row)) for row in _rows_of_three_keys(places))


def _rows_of_three_keys(places):
    """All rows of so many things with a key of 0, 1 or 2, marked with their places."""
    rows = [()]
    for place in range(places):
        rows = [row + ((key, place),) for row in rows for key in (0, 1, 2)]
    return rows


def _keeps_ones(row):
    # To the things of one key all others are just less or greater. So it is enough to look
    # at those with the middle one of three keys.
    marks = [mark for key, mark in row if key == 1]
    return marks == sorted(marks)
