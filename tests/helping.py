"""What several tests need: rows, programs, and what is no program."""

import itertools

from sortforge.errors import BadProgram, BadRow, BadText, ForgeError, NoRule

# A compare that none of four places has, whatever stands around it.
BAD_COMPARES = (
    (0, 4), (3, 4), (4, 5), (0, 40), (0, 10 ** 30),
    (1, 0), (3, 0), (3, 2),
    (0, 0), (1, 1), (3, 3),
    (False, 1), (False, True), (0, True), (True, 2), (True, 3),
    ("0", 1), (0, "1"), ("0", "1"), ("", ""), (None, 1), (0, None), (None, None),
    (-1, 0), (-1, 3), (-2, -1), (0, -1),
    (), (0,), (1,), (0, 1, 2), (0, 1, 1), (0, 1, None),
    [0, 1], [], {0: 1, 1: 2}, {0, 1}, range(2), "01", "0:1", "", b"\x00\x01", None, 0, 1, True, False, 0.5,
    (0.0, 1.0), (0, 1.5), ((0,), (1,)), ([0], [1]), ((0, 1),), ((0, 1), (1, 2)), object(),
)

# What stands in a program's stead.
BAD_STEADS = (
    [], [(0, 1)], [[0, 1]], [(0, 2), (1, 3), (0, 1), (2, 3), (1, 2)], {}, {(0, 1): 0}, set(), {(0, 1)},
    frozenset(), "", "0:1", "step", b"", b"01", None, 0, 1, -1, 4, 10 ** 30, True, False, 0.5,
    (0, 1), (0, 1, 2), (((0, 1),),), iter(()), range(0), range(2), object(), tuple, len,
)


def bad_programs():
    """What is no program of four places: in its stead, or with a bad compare first, amid and last."""
    yield from BAD_STEADS
    good = ((0, 2), (1, 3), (0, 1), (2, 3), (1, 2))
    for compare in BAD_COMPARES:
        for at in range(len(good) + 1):
            yield good[:at] + (compare,) + good[at:]
        yield (compare,)


def assert_refused(test, ask):
    """What is asked is refused with BadProgram, under none of the other refusals."""
    for error in (BadProgram, ForgeError, ValueError):
        with test.assertRaises(error):
            ask()
    with test.assertRaises(BadProgram) as caught:
        ask()
    for other in (BadRow, NoRule, BadText):
        test.assertNotIsInstance(caught.exception, other)


def all_compares(places):
    return tuple(itertools.combinations(range(places), 2))


def marked(keys):
    """A row of these keys, each marked with the place where it stood at first."""
    return tuple((key, place) for place, key in enumerate(keys))


def all_rows(places, keys):
    """All rows of so many things with these keys, the least first."""
    return [marked(row) for row in itertools.product(keys, repeat=places)]


def in_order(row):
    return all(ahead[0] <= behind[0] for ahead, behind in zip(row, row[1:]))


def equal_ones_in_order(row):
    """Whether the marks of each key rise."""
    return all(ahead[0] != behind[0] or ahead[1] < behind[1]
               for ahead, behind in itertools.combinations(row, 2))


class Chance:
    """Numbers that are the same at each run of the tests."""

    def __init__(self, start):
        self.at = start

    def below(self, many):
        self.at = (self.at * 6364136223846793005 + 1442695040888963407) % 2 ** 64
        return (self.at >> 33) % many

    def program(self, places, many):
        compares = all_compares(places)
        return tuple(compares[self.below(len(compares))] for _ in range(many if compares else 0))
