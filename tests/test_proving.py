"""orders, witness and keeps."""

import itertools
import unittest

from helping import (Chance, all_compares, all_rows, assert_refused, bad_programs, equal_ones_in_order,
                     in_order, marked)
from sortforge.proving import keeps, orders, witness
from sortforge.rules import made
from sortforge.running import run

RULES = ("step", "rounds", "quick")

# Of four places: some that order and keep, that do one of both, and that do none.
ORDER_AND_KEEP = (
    ((0, 1), (1, 2), (0, 1), (2, 3), (1, 2), (0, 1)),
    ((0, 1), (2, 3), (1, 2), (0, 1), (2, 3), (1, 2)),
    ((2, 3), (1, 2), (0, 1), (2, 3), (1, 2), (2, 3)),
    ((0, 1), (1, 2), (0, 1), (2, 3), (1, 2), (0, 1), (2, 3), (0, 3), (1, 3)),
)
ORDER_ALONE = (
    ((0, 2), (1, 3), (0, 1), (2, 3), (1, 2)),
    ((0, 1), (2, 3), (0, 2), (1, 3), (1, 2)),
    ((0, 1), (0, 2), (0, 3), (1, 2), (1, 3), (2, 3)),
    ((0, 3), (0, 1), (1, 2), (0, 1), (2, 3), (1, 2), (0, 1)),
)
KEEP_ALONE = (
    (),
    ((0, 1),), ((1, 2),), ((2, 3),),
    ((0, 1), (1, 2), (2, 3)),
    ((2, 3), (1, 2), (0, 1), (0, 1), (2, 3)),
    # In these (0, 2) changes nothing.
    ((0, 1), (1, 2), (0, 1), (0, 2)),
    ((0, 1), (2, 3), (1, 2), (0, 2)),
)
NEITHER = (
    ((0, 2),), ((1, 3),), ((0, 3),),
    ((0, 1), (0, 2)),
    ((0, 2), (0, 1)),
    # Seen by no row of noughts and ones whose noughts alone are out of their order.
    ((1, 2), (0, 2)),
    ((1, 2), (2, 3), (0, 3)),
    ((0, 1), (2, 3), (0, 2)),
    ((0, 1), (2, 3), (1, 2), (0, 3)),
)

# Each row of four noughts and ones that isn't in order, with a program whose witness it is.
BY_WITNESS = (
    ((0, 0, 1, 0), ()),
    ((0, 1, 0, 0), ((2, 3),)),
    ((0, 1, 0, 1), ((1, 3), (2, 3))),
    ((0, 1, 1, 0), ((1, 2), (2, 3))),
    ((1, 0, 0, 0), ((1, 2), (1, 3), (2, 3))),
    ((1, 0, 0, 1), ((0, 3), (1, 2), (1, 3), (2, 3))),
    ((1, 0, 1, 0), ((0, 2), (1, 2), (1, 3), (2, 3))),
    ((1, 0, 1, 1), ((2, 3), (0, 2), (1, 2), (2, 3))),
    ((1, 1, 0, 0), ((0, 1), (1, 2), (1, 3), (2, 3))),
    ((1, 1, 0, 1), ((0, 1), (0, 3), (1, 2), (1, 3), (2, 3))),
    ((1, 1, 1, 0), ((0, 1), (0, 2), (1, 2), (1, 3), (2, 3))),
)


def witness_by_the_words(program, places):
    for row in all_rows(places, (0, 1)):
        if not in_order(run(program, row)):
            return tuple(key for key, _ in row)
    return None


def left_out(program):
    """The programs with one compare left out."""
    return [program[:at] + program[at + 1:] for at in range(len(program))]


class OrdersAndWitness(unittest.TestCase):
    def assert_as_the_words(self, program, places):
        told = witness(program, places)
        self.assertEqual(told, witness_by_the_words(program, places))
        self.assertIs(orders(program, places), told is None)

    def test_the_empty_program(self):
        for places in (0, 1):
            self.assertIs(orders((), places), True)
            self.assertIs(witness((), places), None)
        for places in range(2, 11):
            self.assertIs(orders((), places), False)
            self.assertEqual(witness((), places), (0,) * (places - 2) + (1, 0))

    def test_one_compare(self):
        self.assertIs(orders(((0, 1),), 2), True)
        self.assertIs(witness(((0, 1),), 2), None)
        self.assertEqual(witness(((0, 1),), 3), (0, 1, 0))
        self.assertEqual(witness(((1, 2),), 3), (1, 0, 0))
        self.assertEqual(witness(((0, 2),), 3), (0, 1, 0))
        self.assertEqual(witness(((2, 3),), 4), (0, 1, 0, 0))

    def test_each_row_that_is_not_in_order_as_the_witness(self):
        for keys, program in BY_WITNESS:
            with self.subTest(keys):
                self.assertEqual(witness(program, 4), keys)
                self.assertEqual(witness_by_the_words(program, 4), keys)
        told = [keys for keys, _ in BY_WITNESS]
        self.assertEqual(told, [keys for keys in itertools.product((0, 1), repeat=4) if not in_order(marked(keys))])

    def test_the_witness_is_the_row_handed_in_not_the_row_behind(self):
        for program, keys, behind in ((((0, 1), (1, 2)), (1, 1, 0), [1, 0, 1]),
                                      (((1, 2), (0, 1)), (1, 0, 0), [0, 1, 0])):
            self.assertEqual(witness(program, 3), keys)
            self.assertEqual([key for key, _ in run(program, marked(keys))], behind)

    def test_those_of_the_rules(self):
        for rule in RULES:
            for places in range(11):
                with self.subTest(rule, places=places):
                    self.assertIs(orders(made(rule, places), places), True)
                    self.assertIs(witness(made(rule, places), places), None)

    def test_those_of_the_rules_with_one_compare_left_out(self):
        for rule in RULES:
            for places in range(9):
                for program in left_out(made(rule, places)):
                    with self.subTest(rule, places=places):
                        self.assert_as_the_words(program, places)
                        self.assertIs(orders(program, places), False)
        for places in (9, 10):
            for program in left_out(made("quick", places))[::4]:
                self.assert_as_the_words(program, places)

    def test_those_of_the_rules_at_more_places_than_they_want(self):
        for rule in RULES:
            for places in range(2, 9):
                self.assertEqual(witness(made(rule, places), places + 1), (0,) * (places - 1) + (1, 0))
                self.assertEqual(witness(made(rule, places), places + 2), (0,) * places + (1, 0))

    def test_by_the_words_for_all_small_programs(self):
        for places in range(4):
            for length in range(6):
                for program in itertools.product(all_compares(places), repeat=length):
                    self.assert_as_the_words(program, places)

    def test_by_the_words_for_others(self):
        chance = Chance(1)
        for places in range(2, 11):
            for _ in range(60 if places < 8 else 12):
                self.assert_as_the_words(chance.program(places, chance.below(40)), places)

    def test_a_row_of_any_keys_is_ordered_where_those_of_noughts_and_ones_are(self):
        chance = Chance(2)
        programs = [chance.program(4, chance.below(12)) for _ in range(150)]
        programs.extend(ORDER_AND_KEEP + ORDER_ALONE + KEEP_ALONE + NEITHER)
        rows = all_rows(4, (-5, 0, 10 ** 29, 10 ** 30))
        told = []
        for program in programs:
            told.append(orders(program, 4))
            self.assertIs(told[-1], all(in_order(run(program, row)) for row in rows))
        self.assertEqual(len(set(told)), 2)

    def test_compares_told_twice_and_of_no_use(self):
        for rule in RULES:
            program = made(rule, 6)
            self.assertIs(orders(program + program, 6), True)
            self.assertIs(orders(program + all_compares(6), 6), True)
            self.assertIs(orders(tuple(compare for compare in program for _ in (0, 1)), 6), True)

    def test_a_compare_more_may_undo_the_order(self):
        self.assertIs(orders(((0, 1), (2, 3), (0, 2), (1, 3), (1, 2)), 4), True)
        self.assertEqual(witness(((0, 1), (1, 2), (2, 3), (0, 2), (1, 3), (1, 2)), 4), (1, 1, 0, 1))
        self.assertEqual(witness(((0, 1), (2, 3), (0, 2), (1, 2), (1, 3), (1, 2)), 4), (0, 1, 0, 0))
        for program in ORDER_ALONE:
            for at in range(len(program) + 1):
                for compare in all_compares(4):
                    self.assert_as_the_words(program[:at] + (compare,) + program[at:], 4)

    def test_the_kinds(self):
        for program, places in ((made("quick", 10), 10), (made("quick", 9), 10), ((), 2), ((), 0)):
            self.assertIs(type(orders(program, places)), bool)
        told = witness(made("quick", 9), 10)
        self.assertIs(type(told), tuple)
        self.assertEqual([type(key) for key in told], [int] * 10)

    def test_the_greatest(self):
        for rule in RULES:
            program = (made(rule, 10) * 70)[:2000]
            self.assertEqual(len(program), 2000)
            self.assertIs(orders(program, 10), True)
            self.assertIs(witness(program, 10), None)
        program = made("step", 9) * 60
        program = program[:2000]
        self.assertIs(orders(program, 10), False)
        self.assertEqual(witness(program, 10), (0,) * 8 + (1, 0))

    def test_somewhat_beyond_the_bounds(self):
        for places in range(11, 15):
            program = made("quick", places)
            self.assertIs(orders(program, places), True)
            self.assertIs(witness(program, places), None)
            self.assertEqual(witness(program, places + 1), (0,) * (places - 1) + (1, 0))
            shorter = program[1:]
            self.assertEqual(witness(shorter, places), witness_by_the_words(shorter, places))
        self.assertIs(orders(made("step", 10) * 60, 10), True)
        self.assertEqual(witness((), 40), (0,) * 38 + (1, 0))
        # The least row, although its one stands far ahead.
        for ahead in (1, 2, 3):
            program = tuple((i + ahead, j + ahead) for i, j in made("quick", 11))
            self.assertEqual(witness(program, 11 + ahead), (0,) * (ahead - 1) + (1,) + (0,) * 11)


class Keeps(unittest.TestCase):
    def by_the_words(self, program, places):
        rows = all_rows(places, range(places))
        return all(equal_ones_in_order(run(program, row)) for row in rows)

    def test_the_empty_program(self):
        for places in range(5):
            self.assertIs(keeps((), places), True)

    def test_some_that_order_and_some_that_do_not(self):
        for programs, both in ((ORDER_AND_KEEP, (True, True)), (ORDER_ALONE, (True, False)),
                               (KEEP_ALONE, (False, True)), (NEITHER, (False, False))):
            for program in programs:
                with self.subTest(program):
                    self.assertEqual((orders(program, 4), keeps(program, 4)), both)

    def test_those_of_neighbours(self):
        for places in range(2, 5):
            neighbours = [(place, place + 1) for place in range(places - 1)]
            for length in range(5):
                for program in itertools.product(neighbours, repeat=length):
                    self.assertIs(keeps(program, places), True)

    def test_those_of_the_rules(self):
        for places in range(5):
            self.assertIs(keeps(made("step", places), places), True)
            self.assertIs(keeps(made("rounds", places), places), True)
            self.assertIs(keeps(made("quick", places), places), places < 3)

    def test_by_the_words_for_all_small_programs(self):
        for places in range(4):
            for length in range(5):
                for program in itertools.product(all_compares(places), repeat=length):
                    self.assertIs(keeps(program, places), self.by_the_words(program, places))

    def test_by_the_words_for_others(self):
        chance = Chance(3)
        told = []
        for _ in range(120):
            # Mostly neighbours, so that a good part of them keeps.
            program = tuple(
                compare for compare in chance.program(4, chance.below(24))
                if compare[1] - compare[0] == 1 or chance.below(6) == 0)
            told.append(keeps(program, 4))
            self.assertIs(told[-1], self.by_the_words(program, 4))
        self.assertGreater(min(told.count(True), told.count(False)), 20)

    def test_more_places_than_wanted(self):
        self.assertIs(keeps(((0, 1),), 4), True)
        self.assertIs(keeps(((0, 2),), 3), False)
        self.assertIs(keeps(((0, 2),), 4), False)

    def test_the_kind(self):
        for program in (*KEEP_ALONE, *NEITHER):
            self.assertIs(type(keeps(program, 4)), bool)

    def test_the_greatest(self):
        self.assertIs(keeps((made("step", 4) * 334)[:2000], 4), True)
        self.assertIs(keeps(made("step", 4) * 333 + ((0, 3),) * 2, 4), True)
        self.assertIs(keeps(((0, 3),) * 2 + made("step", 4) * 333, 4), False)

    def test_somewhat_beyond_the_bounds(self):
        for places in (5, 6):
            self.assertIs(keeps(made("step", places), places), True)
            self.assertIs(keeps(made("quick", places), places), False)
        self.assertIs(keeps(made("rounds", 4) * 400, 4), True)


class Refused(unittest.TestCase):
    def test_what_is_no_program_of_so_many_places(self):
        for ask in (orders, witness, keeps):
            for program in bad_programs():
                with self.subTest(ask.__name__, program=repr(program)[:60]):
                    assert_refused(self, lambda: ask(program, 4))

    def test_a_compare_beyond_the_places(self):
        for ask in (orders, witness, keeps):
            for places in range(5):
                assert_refused(self, lambda: ask(((0, places),), places))
                assert_refused(self, lambda: ask(((0, 1), (0, places + 1)), places))
                assert_refused(self, lambda: ask(((places, places + 1),), places))
            assert_refused(self, lambda: ask(((0, 1),), 1))
            assert_refused(self, lambda: ask(((0, 1),), 0))
        for ask in (orders, witness):
            for places in range(5, 11):
                assert_refused(self, lambda: ask(made("quick", places + 1), places))

    def test_it_is_refused_although_a_row_was_found_ahead_of_it(self):
        for ask in (orders, witness, keeps):
            assert_refused(self, lambda: ask(((0, 2),) * 1999 + ((2, 1),), 4))

    def test_what_is_handed_in_stays(self):
        program = [(0, 1), [1, 0]]
        for ask in (orders, witness, keeps):
            assert_refused(self, lambda: ask(program, 2))
            assert_refused(self, lambda: ask(((0, 1), program), 2))
        self.assertEqual(program, [(0, 1), [1, 0]])


class Own(unittest.TestCase):
    def test_what_is_handed_in_stays_and_a_second_answer_is_the_same(self):
        for program in ORDER_AND_KEEP + ORDER_ALONE + KEEP_ALONE + NEITHER:
            before = tuple(program)
            first = (orders(program, 4), witness(program, 4), keeps(program, 4))
            self.assertEqual(first, (orders(program, 4), witness(program, 4), keeps(program, 4)))
            self.assertEqual(program, before)


if __name__ == "__main__":
    unittest.main()
