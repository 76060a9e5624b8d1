"""made, count_of and keeps_by, and what holds of the programs that are made."""

import itertools
import unittest

from sortforge.errors import BadProgram, BadRow, BadText, ForgeError, NoRule
from sortforge.programs import is_program, layers
from sortforge.rules import count_of, keeps_by, made
from sortforge.running import run

RULES = ("step", "rounds", "quick")

# Small ones written out by hand from the document's words.
SMALL = {
    ("step", 0): (),
    ("step", 1): (),
    ("step", 2): ((0, 1),),
    ("step", 3): ((0, 1), (1, 2), (0, 1)),
    ("step", 4): ((0, 1), (1, 2), (0, 1), (2, 3), (1, 2), (0, 1)),
    ("step", 5): ((0, 1), (1, 2), (0, 1), (2, 3), (1, 2), (0, 1), (3, 4), (2, 3), (1, 2), (0, 1)),
    ("rounds", 0): (),
    ("rounds", 1): (),
    ("rounds", 2): ((0, 1),),
    ("rounds", 3): ((0, 1), (1, 2), (0, 1)),
    ("rounds", 4): ((0, 1), (2, 3), (1, 2), (0, 1), (2, 3), (1, 2)),
    ("rounds", 5): ((0, 1), (2, 3), (1, 2), (3, 4), (0, 1), (2, 3), (1, 2), (3, 4), (0, 1), (2, 3)),
    ("rounds", 6): ((0, 1), (2, 3), (4, 5), (1, 2), (3, 4)) * 3,
    ("quick", 0): (),
    ("quick", 1): (),
    ("quick", 2): ((0, 1),),
    ("quick", 3): ((0, 2), (0, 1), (1, 2)),
    ("quick", 4): ((0, 2), (1, 3), (0, 1), (2, 3), (1, 2)),
    ("quick", 5): ((0, 4), (0, 2), (1, 3), (2, 4), (0, 1), (2, 3), (1, 4), (1, 2), (3, 4)),
    ("quick", 6): ((0, 4), (1, 5), (0, 2), (1, 3), (2, 4), (3, 5), (0, 1), (2, 3), (4, 5),
                   (1, 4), (1, 2), (3, 4)),
    ("quick", 8): ((0, 4), (1, 5), (2, 6), (3, 7), (0, 2), (1, 3), (4, 6), (5, 7), (2, 4), (3, 5),
                   (0, 1), (2, 3), (4, 5), (6, 7), (1, 4), (3, 6), (1, 2), (3, 4), (5, 6)),
    ("quick", 9): ((0, 8), (0, 4), (1, 5), (2, 6), (3, 7), (4, 8), (0, 2), (1, 3), (4, 6), (5, 7),
                   (2, 8), (2, 4), (3, 5), (6, 8), (0, 1), (2, 3), (4, 5), (6, 7), (1, 8), (1, 4),
                   (3, 6), (5, 8), (1, 2), (3, 4), (5, 6), (7, 8)),
}

# As [13] reckons by hand: of 0 to 16 places.
QUICK_COUNTS = (0, 0, 1, 3, 5, 9, 12, 16, 19, 26, 31, 37, 41, 48, 53, 59, 63)

OTHER_NAMES = ("", " ", "Step", "STEP", "steps", "ste", "stepp", " step", "step ", "step\n", "tep", "Rounds",
               "ROUNDS", "round", "rounds ", " rounds", "roundss", "QUICK", "Quick", "quick ", "\tquick",
               "quicks", "quic", "step rounds", "step,quick", "step rounds quick", "bubble", "slow", "0", "1",
               "None", "\uff53tep", "st\u0435p", "quick\x00", "s", "k", "ck")


def step_by_the_words(places):
    program = []
    for last in range(1, places):
        place = last
        while place > 0:
            program.append((place - 1, place))
            place -= 1
    return tuple(program)


def rounds_by_the_words(places):
    program = []
    for number in range(1, places + 1):
        place = 0 if number in range(1, places + 1, 2) else 1
        while place + 1 < places:
            program.append((place, place + 1))
            place += 2
    return tuple(program)


def quick_by_the_words(places):
    program = []
    powers = [2 ** k for k in range(10, -1, -1) if 2 ** k < places]
    for part in powers:
        for i in range(places):
            if (i // part) % 2 == 0 and i + part < places:
                program.append((i, i + part))
        for power in powers:
            if power > part:
                for i in range(places):
                    if (i // part) % 2 == 1 and i + power - part < places:
                        program.append((i, i + power - part))
    return tuple(program)


def merging_by_the_words(a, b):
    if a == 0 or b == 0:
        return 0
    if (a, b) == (1, 1):
        return 1
    up = merging_by_the_words(a - a // 2, b - b // 2)
    down = merging_by_the_words(a // 2, b // 2)
    return up + down + (a + b - 1) // 2


def count_by_the_words(rule, places):
    if rule != "quick":
        return sum(range(places))
    if places < 2:
        return 0
    less = places // 2
    more = places - less
    return (count_by_the_words(rule, more) + count_by_the_words(rule, less)
            + merging_by_the_words(more, less))


def marked(keys):
    return tuple((key, place) for place, key in enumerate(keys))


def rows_of_many_kinds(places):
    """Rows of so many things: turned about, turned round, with equal ones, of noughts and ones, any."""
    yield range(places)
    yield range(places, 0, -1)
    yield [0] * places
    for much in range(1, 8):
        yield [place % much for place in range(places)]
        yield [-(place % much) for place in range(places)]
        yield [place // much for place in range(places, 0, -1)]
        yield [(place * place + much) % 11 for place in range(places)]
    for at in range(places):
        yield [*range(at, places), *range(at)]
        yield [int(place < at) for place in range(places)]
        yield [int(place == at) for place in range(places)]
        yield [int(place != at) for place in range(places)]
    chance = 1
    for most in (2, 3, 5, 40, 10 ** 30):
        for _ in range(20):
            keys = []
            for _ in range(places):
                chance = (chance * 6364136223846793005 + 1442695040888963407) % 2 ** 64
                keys.append((chance >> 20) * 10 ** 18 % most - most // 2)
            yield keys


class Made(unittest.TestCase):
    def test_small_ones_compare_by_compare(self):
        for (rule, places), program in SMALL.items():
            with self.subTest(rule, places=places):
                self.assertEqual(made(rule, places), program)

    def test_by_the_words(self):
        for places in range(41):
            with self.subTest(places):
                self.assertTrue(made("step", places) == step_by_the_words(places))
                self.assertTrue(made("rounds", places) == rounds_by_the_words(places))
                self.assertTrue(made("quick", places) == quick_by_the_words(places))

    def test_they_are_programs_of_so_many_places(self):
        for rule in RULES:
            for places in range(41):
                with self.subTest(rule, places=places):
                    program = made(rule, places)
                    self.assertIs(is_program(program, places), True)
                    if places > 1:
                        self.assertIs(is_program(program, places - 1), False)

    def test_the_kinds(self):
        for rule in RULES:
            for places in (0, 1, 2, 7, 40):
                program = made(rule, places)
                self.assertIs(type(program), tuple)
                for compare in program:
                    self.assertIs(type(compare), tuple)
                    self.assertEqual([type(place) for place in compare], [int, int])

    def test_a_second_answer_is_the_same(self):
        for rule in RULES:
            self.assertEqual(made(rule, 9), made(rule, 9))

    def test_the_layers_of_rounds_are_its_rounds(self):
        for places in range(3, 41):
            self.assertEqual(len(layers(made("rounds", places))), places)

    def test_somewhat_beyond_the_bounds(self):
        for rule in RULES:
            row = marked(range(50, 0, -1))
            self.assertEqual(run(made(rule, 50), row), row[::-1])


class Counts(unittest.TestCase):
    def test_as_many_as_are_made(self):
        for rule in RULES:
            for places in range(65):
                with self.subTest(rule, places=places):
                    self.assertEqual(count_of(rule, places), len(made(rule, places)))

    def test_as_is_reckoned(self):
        for rule in RULES:
            for places in range(41):
                with self.subTest(rule, places=places):
                    self.assertEqual(count_of(rule, places), count_by_the_words(rule, places))

    def test_known_ones(self):
        self.assertEqual(tuple(count_of("quick", places) for places in range(17)), QUICK_COUNTS)
        self.assertEqual(count_of("quick", 32), 191)
        for rule in ("step", "rounds"):
            self.assertEqual([count_of(rule, places) for places in (0, 1, 2, 3, 4, 5, 10, 40)],
                             [0, 0, 1, 3, 6, 10, 45, 780])

    def test_the_kind(self):
        for rule in RULES:
            for places in (0, 1, 2, 3, 40):
                self.assertIs(type(count_of(rule, places)), int)


class KeepsBy(unittest.TestCase):
    def test_each_rule(self):
        self.assertIs(keeps_by("step"), True)
        self.assertIs(keeps_by("rounds"), True)
        self.assertIs(keeps_by("quick"), False)


class Order(unittest.TestCase):
    def test_every_row_of_noughts_and_ones(self):
        for rule in RULES:
            for places in range(11):
                program = made(rule, places)
                for keys in itertools.product((0, 1), repeat=places):
                    behind = run(program, marked(keys))
                    self.assertEqual([key for key, _ in behind], sorted(keys))

    def test_rows_of_many_kinds_and_equal_ones_in_order(self):
        for places in range(41):
            rows = [marked(keys) for keys in rows_of_many_kinds(places)]
            for rule in RULES:
                program = made(rule, places)
                for row in rows:
                    behind = run(program, row)
                    if rule == "quick":
                        self.assertEqual(sorted(behind), sorted(row))
                        self.assertEqual([key for key, _ in behind], sorted(key for key, _ in row))
                    else:
                        # Python's own sorting keeps equal ones in order.
                        self.assertEqual(behind, tuple(sorted(row, key=lambda thing: thing[0])))


class NoneShorter(unittest.TestCase):
    def test_up_to_four_places(self):
        for places in range(5):
            compares = tuple(itertools.combinations(range(places), 2))
            rows = [marked(keys) for keys in itertools.product((0, 1), repeat=places)]
            for length in range(count_of("quick", places)):
                for program in itertools.product(compares, repeat=length):
                    self.assertFalse(all(self.is_ordered(run(program, row)) for row in rows))

    def test_up_to_four_places_that_keep(self):
        for places in range(5):
            compares = tuple(itertools.combinations(range(places), 2))
            # Rows of noughts and ones do for those that order, as marks of equal ones must rise.
            rows = [marked(keys) for keys in itertools.product((0, 1), repeat=places)][::-1]
            for length in range(count_of("step", places)):
                for program in itertools.product(compares, repeat=length):
                    self.assertFalse(all(run(program, row) == tuple(sorted(row)) for row in rows))

    def is_ordered(self, row):
        keys = [key for key, _ in row]
        return keys == sorted(keys)


class OtherNames(unittest.TestCase):
    def test_each_is_refused_by_all_three(self):
        asked = (lambda name: made(name, 4), lambda name: count_of(name, 4), keeps_by,
                 lambda name: made(name, 0), lambda name: count_of(name, 0),
                 lambda name: made(name, 40), lambda name: count_of(name, 40))
        for name in OTHER_NAMES:
            for number, ask in enumerate(asked):
                with self.subTest(name, number=number):
                    for error in (NoRule, ForgeError, ValueError):
                        with self.assertRaises(error):
                            ask(name)
                    with self.assertRaises(NoRule) as caught:
                        ask(name)
                    for other in (BadProgram, BadRow, BadText):
                        self.assertNotIsInstance(caught.exception, other)


if __name__ == "__main__":
    unittest.main()
