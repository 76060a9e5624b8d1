"""Leaving out compares that a program doesn't need."""

from sortforge.errors import BadProgram
from sortforge.proving import keeps, orders
from sortforge.trying import blocks_of_rows, check_program, tried


def idle(program, places):
    """The list of the numbers of the compares that change no row, rising."""
    check_program(program, places)
    changing = set()
    # A compare that changes a row changes one of noughts and ones: that with a one for each
    # key that is greater than the lesser of the two keys compared.
    for columns in blocks_of_rows(places):
        _, changed = tried(program, columns)
        for number in changed:
            changing.add(number)
    return [number for number in range(len(program)) if number not in changing]


def without_idle(program, places):
    """The program without its idle compares."""
    numbers = idle(program, places)
    without = set(numbers)
    return tuple([compare for number, compare in enumerate(program) if number not in without])


def shortened(program, places, keep):
    """Some of the compares, of which none can be left out, that still order every row.

    Where it is to keep, they still keep equal ones in order, too.
    """
    if not _does(program, places, keep):
        raise BadProgram("only what orders every row (and keeps, where asked) can be shortened")
    shorter = _gone_over(program, places, keep)
    # What one going over leaves out may have been what made another compare necessary.
    while len(shorter) < len(program):
        program = shorter
        shorter = _gone_over(program, places, keep)
    return program


def _does(program, places, keep):
    return orders(program, places) and (not keep or keeps(program, places))


def _gone_over(program, places, keep):
    """The program without those compares that can be left out, each tried once, the last first."""
    for number in range(len(program) - 1, -1, -1):
        shorter = program[:number] + program[number + 1:]
        if _does(shorter, places, keep):
            program = shorter
    return program
