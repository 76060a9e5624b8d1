"""What a program is, how many places it wants, and its layers."""


def is_program(thing, places):
    """Tell of anything whether it is a program of so many places."""
    return isinstance(thing, tuple) and all(_is_compare(part, places) for part in thing)


def _is_compare(thing, places):
    if not isinstance(thing, tuple) or len(thing) != 2:
        return False
    i, j = thing
    return _is_number(i) and _is_number(j) and 0 <= i < j < places


def _is_number(thing):
    # To Python a truth is an integer, to the document it is no number.
    return isinstance(thing, int) and not isinstance(thing, bool)


def places_of(program):
    """How many places the program wants: its greatest place and one, 0 of the empty one."""
    return max([j + 1 for _, j in program], default=0)


def layers(program):
    """The layers of the program, a tuple of tuples of compares."""
    found = []
    # At each place the layers only rise, so the one behind its latest compare
    # is behind all of its compares.
    behind = {}
    for i, j in program:
        number = max(behind.get(i, 0), behind.get(j, 0))
        if number == len(found):
            found.append([])
        found[number].append((i, j))
        behind[i] = number + 1
        behind[j] = number + 1
    return tuple([tuple(layer) for layer in found])
