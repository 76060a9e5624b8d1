"""Going through a program with all rows of noughts and ones at once, to prove and to shorten it.

A column is a number that holds the keys which many rows have at one place: its bit k is that of
row k. So one step over two columns is a compare of all these rows.
"""

from sortforge.errors import BadProgram
from sortforge.programs import is_program

# More rows than those of so many places are tried block by block, as a column has a bit for each.
PLACES_AT_ONCE = 10


def check_program(program, places):
    """Refuse what is no program of so many places."""
    if not is_program(program, places):
        raise BadProgram(f"this is no program of {places} places")


def blocks_of_rows(places):
    """All rows of so many noughts and ones, the least first, in blocks of a column for each place."""
    low = min(places, PLACES_AT_ONCE)
    columns = _columns_of_all(low)
    ones = (1 << (1 << PLACES_AT_ONCE)) - 1
    for ahead in range(1 << (places - low)):
        # The places ahead of those that are tried at once have one key in all rows of a block.
        keys = [(ahead >> k) & 1 for k in range(places - low - 1, -1, -1)]
        yield [ones * key for key in keys] + columns


def _columns_of_all(places):
    columns = []
    rows = 1
    for _ in range(places):
        # One more place, ahead: nought in all rows there were, one in as many after them.
        columns = [((1 << rows) - 1) << rows] + [column | (column << rows) for column in columns]
        rows = rows * 2
    return columns


def tried(program, columns):
    """The columns behind the program, and the numbers of the compares that change a row of them."""
    behind = list(columns)
    changing = []
    for number, (i, j) in enumerate(program):
        wrong = behind[i] & ~behind[j]
        if wrong != 0:
            behind[i] = behind[i] ^ wrong
            behind[j] = behind[j] | wrong
            changing.append(number)
    return behind, changing
