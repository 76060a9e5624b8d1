"""Going through a program with a row of things."""

from sortforge.errors import BadRow
from sortforge.programs import places_of


def run(program, row):
    """The row behind the program."""
    things, _ = _gone_through(program, row)
    return tuple(things)


def changes(program, row):
    """The list of the numbers of the compares that change places, rising."""
    _, changed = _gone_through(program, row)
    return changed


def _gone_through(program, row):
    """The things behind the program, and the numbers of the compares that changed places."""
    wanted = places_of(program)
    if len(row) < wanted:
        raise BadRow(f"the program wants {wanted} things, the row has {len(row)}")
    things = list(row)
    changed = []
    for number, (i, j) in enumerate(program):
        # Only the keys: marks may be of a kind that can't be compared.
        if things[i][0] > things[j][0]:
            things[i], things[j] = things[j], things[i]
            changed.append(number)
    return things, changed
