"""idle, without_idle and shortened."""

import itertools
import unittest

from helping import (Chance, all_compares, all_rows, assert_refused, bad_programs, equal_ones_in_order,
                     in_order, marked)
from sortforge.programs import is_program
from sortforge.proving import keeps, orders
from sortforge.rules import made
from sortforge.running import changes, run
from sortforge.shorter import idle, shortened, without_idle

RULES = ("step", "rounds", "quick")

# Each with its places and the numbers of its idle compares.
IDLE = (
    ((), 0, []),
    ((), 1, []),
    ((), 10, []),
    (((0, 1),), 2, []),
    (((0, 1), (0, 1)), 2, [1]),
    (((0, 1), (0, 1), (0, 1)), 2, [1, 2]),
    (((0, 1), (1, 2), (0, 1)), 3, []),
    (((0, 1), (1, 2), (0, 1), (1, 2)), 3, [3]),
    (((0, 1), (1, 2), (0, 1), (0, 2), (0, 1)), 3, [3, 4]),
    (((0, 1), (2, 3), (0, 1), (2, 3)), 4, [2, 3]),
    (((0, 1), (0, 1), (2, 3), (0, 2), (1, 3), (0, 3), (1, 2)), 4, [1, 5]),
    (((0, 1), (1, 2), (0, 2)), 3, [2]),
    (((1, 2), (0, 1), (0, 2)), 3, [2]),
    (((0, 1), (1, 2), (0, 2), (0, 1)), 3, [2]),
    (((0, 1), (1, 2), (0, 1), (0, 1)), 3, [3]),
    (((0, 2), (0, 1), (0, 2)), 3, [2]),
    (((0, 2), (1, 2), (0, 2)), 3, [2]),
    (((0, 1), (0, 2), (0, 1)), 3, [2]),
)

# One going over, the first compare first, leaves compares in this that can then be left out.
FIRST_FIRST = ((2, 3), (1, 3), (1, 2), (2, 3), (0, 3), (2, 3), (0, 1), (1, 2))
# So does one with the last compare first in this.
LAST_FIRST = ((0, 4), (1, 5), (0, 2), (1, 3), (2, 4), (3, 5), (3, 4), (0, 1), (2, 3), (1, 3), (4, 5),
              (1, 4), (1, 2), (3, 4))

# In these (0, 2) or (1, 3) changes nothing, but once compares ahead of it are left out it orders
# and doesn't keep.
KEEP_LOST = (
    (3, ((0, 1), (1, 2), (0, 2), (0, 1))),
    (3, ((1, 2), (0, 1), (0, 2), (1, 2))),
    (3, ((0, 1), (1, 2), (0, 1), (0, 2), (1, 2))),
    (4, ((1, 2), (2, 3), (0, 1), (1, 2), (0, 2), (0, 1), (2, 3))),
    (4, ((1, 2), (0, 1), (0, 1), (0, 2), (1, 2), (2, 3), (1, 2), (0, 1))),
    (4, ((1, 2), (2, 3), (0, 1), (1, 2), (0, 1), (1, 3), (0, 2), (2, 3), (1, 3))),
)


def idle_by_the_words(program, places, keys):
    changing = set()
    for row in all_rows(places, keys):
        changing.update(changes(program, row))
    return [number for number in range(len(program)) if number not in changing]


def some_of(shorter, program):
    """Whether the compares of the one stand in the other, in their order."""
    left = iter(program)
    return all(compare in left for compare in shorter)


class Idle(unittest.TestCase):
    def test_known_ones(self):
        for program, places, numbers in IDLE:
            with self.subTest(program, places=places):
                self.assertEqual(idle(program, places), numbers)

    def test_none_of_those_of_step_and_quick(self):
        for places in range(11):
            for rule in ("step", "quick"):
                self.assertEqual(idle(made(rule, places), places), [])
        for places in range(3):
            self.assertEqual(idle(made("rounds", places), places), [])

    def test_a_compare_told_twice(self):
        for rule in RULES:
            for places in range(2, 11):
                program = tuple(compare for compare in made(rule, places) for _ in (0, 1))
                told = idle(program, places)
                self.assertTrue(set(range(1, len(program), 2)) <= set(told))
                program = made(rule, places) * 2
                half = len(program) // 2
                self.assertEqual(idle(program, places)[-half:], list(range(half, 2 * half)))

    def test_by_the_words_for_all_small_programs(self):
        for places in range(4):
            for length in range(6):
                for program in itertools.product(all_compares(places), repeat=length):
                    self.assertEqual(idle(program, places), idle_by_the_words(program, places, range(places)))

    def test_by_the_words_for_others(self):
        chance = Chance(4)
        for _ in range(60):
            program = chance.program(4, chance.below(20))
            self.assertEqual(idle(program, 4), idle_by_the_words(program, 4, (-1, 0, 5, 10 ** 30)))
        for places in range(5, 11):
            for _ in range(8):
                program = chance.program(places, chance.below(60))
                self.assertEqual(idle(program, places), idle_by_the_words(program, places, (0, 1)))

    def test_one_that_does_not_order(self):
        self.assertEqual(idle(((0, 2), (0, 2), (1, 3)), 4), [1])
        self.assertEqual(idle(((3, 9), (0, 1), (3, 9)), 10), [2])

    def test_more_places_than_wanted(self):
        for program, places, numbers in IDLE:
            if places > 0:
                self.assertEqual(idle(program, places + 3), numbers)

    def test_the_list_told_is_the_askers_own(self):
        for program, places, numbers in IDLE:
            told = idle(program, places)
            self.assertIs(type(told), list)
            self.assertEqual([type(number) for number in told], [int] * len(told))
            told.append("mine")
            self.assertEqual(idle(program, places), numbers)

    def test_the_greatest(self):
        program = (made("quick", 10) * 65)[:2000]
        self.assertTrue(idle(program, 10) == list(range(31, 2000)))
        program = ((0, 1),) * 1999 + ((1, 2),)
        self.assertTrue(idle(program, 10) == list(range(1, 1999)))

    def test_somewhat_beyond_the_bounds(self):
        program = made("quick", 12) + made("step", 12)
        self.assertEqual(idle(program, 12), list(range(41, 41 + 66)))
        self.assertEqual(idle(((0, 12), (1, 12), (0, 1), (0, 12)), 13), [3])
        self.assertEqual(len(idle(made("step", 10) * 60, 10)), 45 * 59)


class WithoutIdle(unittest.TestCase):
    def assert_without(self, program, places, keys):
        told = without_idle(program, places)
        numbers = idle(program, places)
        self.assertEqual(
            told, tuple(compare for number, compare in enumerate(program) if number not in numbers))
        self.assertEqual(idle(told, places), [])
        for row in all_rows(places, keys):
            self.assertEqual(run(told, row), run(program, row))

    def test_known_ones(self):
        for program, places, numbers in IDLE:
            told = without_idle(program, places)
            self.assertIs(type(told), tuple)
            self.assertEqual(len(told), len(program) - len(numbers))
            self.assertTrue(is_program(told, places))
        self.assertEqual(without_idle(((0, 1), (0, 1)), 2), ((0, 1),))
        self.assertEqual(without_idle(((0, 1), (1, 2), (0, 1), (0, 2), (0, 1)), 3), ((0, 1), (1, 2), (0, 1)))
        self.assertEqual(without_idle(((0, 1), (0, 1), (2, 3), (0, 2), (1, 3), (0, 3), (1, 2)), 4),
                         ((0, 1), (2, 3), (0, 2), (1, 3), (1, 2)))

    def test_one_without_idle_compares_stays(self):
        for places in range(11):
            for rule in ("step", "quick"):
                self.assertEqual(without_idle(made(rule, places), places), made(rule, places))

    def test_it_does_the_same_to_each_row_thing_by_thing(self):
        for places in range(4):
            for length in range(5):
                for program in itertools.product(all_compares(places), repeat=length):
                    self.assert_without(program, places, range(places))
        chance = Chance(5)
        for _ in range(40):
            self.assert_without(chance.program(4, chance.below(24)), 4, (0, 1, 2, 3))
        for places in range(5, 11):
            for _ in range(4):
                self.assert_without(chance.program(places, chance.below(50)), places, (0, 1))

    def test_the_greatest(self):
        program = (made("step", 10) * 45)[:2000]
        self.assertEqual(without_idle(program, 10), made("step", 10))

    def test_somewhat_beyond_the_bounds(self):
        self.assertEqual(without_idle(made("quick", 12) + made("step", 12), 12), made("quick", 12))


class Shortened(unittest.TestCase):
    def does(self, program, places, keep):
        """What a program is to do, by the words."""
        if not all(in_order(run(program, row)) for row in all_rows(places, (0, 1))):
            return False
        return not keep or all(
            equal_ones_in_order(run(program, row)) for row in all_rows(places, range(places)))

    def assert_short(self, program, places, keep):
        told = shortened(program, places, keep)
        self.assertIs(type(told), tuple)
        self.assertIs(is_program(told, places), True)
        self.assertTrue(some_of(told, program))
        self.assertTrue(self.does(told, places, keep))
        for at in range(len(told)):
            self.assertFalse(self.does(told[:at] + told[at + 1:], places, keep))
        self.assertEqual(shortened(program, places, keep), told)
        self.assertEqual(shortened(told, places, keep), told)

    def test_what_is_short_stays(self):
        for places in range(2):
            for keep in (True, False):
                self.assertEqual(shortened((), places, keep), ())
        for keep in (True, False):
            self.assertEqual(shortened(((0, 1),), 2, keep), ((0, 1),))
            self.assertEqual(shortened(((0, 1), (1, 2), (0, 1)), 3, keep), ((0, 1), (1, 2), (0, 1)))
        for places in range(5):
            for rule in ("step", "rounds"):
                self.assertEqual(shortened(made(rule, places), places, True), made(rule, places))
        for places in range(5):
            self.assertEqual(shortened(made("quick", places), places, False), made("quick", places))

    def test_those_of_the_rules(self):
        for rule in RULES:
            for places in range(9):
                self.assert_short(made(rule, places), places, False)
        for places in range(5):
            for rule in ("step", "rounds"):
                self.assert_short(made(rule, places), places, True)

    def test_idle_ones_are_left_out(self):
        self.assertEqual(shortened(((0, 1),) * 100, 2, False), ((0, 1),))
        self.assertEqual(shortened(((0, 1),) * 20, 2, True), ((0, 1),))
        for keep in (True, False):
            # Which three are left is free.
            program = ((0, 1), (1, 2), (0, 1), (1, 2), (0, 2))
            self.assertEqual(len(shortened(program, 3, keep)), 3)
            self.assert_short(program, 3, keep)

    def test_not_only_idle_ones_are_left_out(self):
        for extra in all_compares(4):
            program = (extra,) + made("quick", 4)
            self.assertNotIn(0, idle(program, 4))
            self.assertEqual(len(shortened(program, 4, False)), 5)

    def test_one_going_over_is_not_enough(self):
        for places, program in ((4, FIRST_FIRST), (6, LAST_FIRST)):
            self.assertTrue(orders(program, places))
            self.assert_short(program, places, False)

    def test_others_that_order(self):
        chance = Chance(6)
        many = 0
        for places in range(2, 6):
            for _ in range(30):
                program = chance.program(places, chance.below(40))
                if orders(program, places):
                    many += 1
                    self.assert_short(program, places, False)
        self.assertGreater(many, 30)
        for rule in RULES:
            for places in range(2, 7):
                program = chance.program(places, 9) + made(rule, places) + chance.program(places, 9)
                self.assert_short(program, places, False)

    def test_others_that_keep(self):
        chance = Chance(7)
        many = 0
        for places in range(2, 5):
            for _ in range(20):
                # Neighbours keep, and (0, 2) does where it is idle.
                program = tuple(compare for compare in chance.program(places, 40)
                                if compare[1] - compare[0] == 1)[:14]
                program = program + made("rounds", places) + all_compares(places)
                self.assertTrue(keeps(program, places))
                self.assert_short(program[-20:], places, True)
                many += len(shortened(program[-20:], places, True)) < len(program[-20:])
        self.assertGreater(many, 30)

    def test_what_is_left_still_keeps(self):
        for places, program in KEEP_LOST:
            with self.subTest(program):
                self.assertTrue(self.does(program, places, True))
                self.assert_short(program, places, True)
                self.assert_short(program, places, False)

    def test_what_keeps_may_be_longer(self):
        program = made("rounds", 4) + ((0, 2), (1, 3), (0, 1), (2, 3), (1, 2))
        self.assertEqual(len(shortened(program, 4, True)), 6)
        self.assert_short(program, 4, True)
        self.assert_short(program, 4, False)
        # What can be left out so that it orders can't always be left out so that it keeps, too.
        for at in range(6):
            program = made("step", 4)
            self.assertFalse(self.does(program[:at] + program[at + 1:], 4, True))

    def test_what_is_handed_in_stays(self):
        before = tuple(LAST_FIRST)
        shortened(LAST_FIRST, 6, False)
        without_idle(LAST_FIRST, 6)
        idle(LAST_FIRST, 6)
        self.assertEqual(LAST_FIRST, before)

    def test_the_greatest(self):
        chance = Chance(8)
        program = made("quick", 10) + made("rounds", 10) + chance.program(10, 24)
        self.assertEqual(len(program), 100)
        for program in (program, made("step", 10) + made("step", 10) + ((0, 9),) * 10,
                        chance.program(10, 55) + made("step", 10)):
            self.assertEqual(len(program), 100)
            told = shortened(program, 10, False)
            self.assertTrue(some_of(told, program))
            self.assertTrue(orders(told, 10))
            for at in range(len(told)):
                self.assertFalse(orders(told[:at] + told[at + 1:], 10))
        program = (made("step", 4) * 4)[:20]
        self.assertEqual(len(program), 20)
        self.assert_short(program, 4, True)

    def test_somewhat_beyond_the_bounds(self):
        program = made("quick", 11) + made("step", 11)[::-1] + made("rounds", 11)
        told = shortened(program, 11, False)
        self.assertTrue(some_of(told, program))
        self.assertTrue(orders(told, 11))
        self.assertEqual(len(shortened(made("step", 4) * 5, 4, True)), 6)
        self.assertEqual(shortened(made("rounds", 5), 5, True), made("rounds", 5))


class Refused(unittest.TestCase):
    def asked(self):
        return (idle, without_idle, lambda program, places: shortened(program, places, False),
                lambda program, places: shortened(program, places, True))

    def test_what_is_no_program_of_so_many_places(self):
        for number, ask in enumerate(self.asked()):
            for program in bad_programs():
                with self.subTest(number, program=repr(program)[:60]):
                    assert_refused(self, lambda: ask(program, 4))

    def test_what_is_no_program_although_all_else_orders_and_keeps(self):
        for number, ask in enumerate(self.asked()):
            for places in range(2, 5):
                good = made("step", places)
                for bad in ((places - 1, places), (1, 0), (0, 0), (0, True), (-1, 0), (0,), [0, 1], None, "0:1"):
                    with self.subTest(number, bad=repr(bad)):
                        assert_refused(self, lambda: ask(good + (bad,), places))
                        assert_refused(self, lambda: ask((bad,) + good, places))
                assert_refused(self, lambda: ask(list(good), places))
                assert_refused(self, lambda: ask(good, places - 1))

    def test_a_compare_beyond_the_places(self):
        for ask in self.asked():
            for places in range(5):
                assert_refused(self, lambda: ask(((0, places),), places))
            assert_refused(self, lambda: ask(((0, 1),), 0))
            assert_refused(self, lambda: ask(((0, 1),), 1))
        for ask in self.asked()[:3]:
            for places in range(5, 11):
                assert_refused(self, lambda: ask(made("step", places + 1), places))

    def test_one_that_does_not_order(self):
        for keep in (True, False):
            for program, places in (
                    ((), 2), ((), 4), (((0, 1),), 3), (((0, 1), (1, 2)), 3), (((0, 2),), 3),
                    (((0, 1), (1, 2), (2, 3)), 4), (made("step", 3), 4),
                    (((0, 1), (1, 2), (2, 3), (0, 2), (1, 3), (1, 2)), 4)):
                with self.subTest(program, places=places, keep=keep):
                    assert_refused(self, lambda: shortened(program, places, keep))
        assert_refused(self, lambda: shortened((), 10, False))
        assert_refused(self, lambda: shortened(made("step", 9), 10, False))
        for rule in RULES:
            for places in range(2, 9):
                for at in range(len(made(rule, places))):
                    program = made(rule, places)[:at] + made(rule, places)[at + 1:]
                    if not orders(program, places):
                        assert_refused(self, lambda: shortened(program, places, False))

    def test_one_that_orders_but_does_not_keep(self):
        for program, places in (
                (made("quick", 3), 3), (made("quick", 4), 4), (((0, 1), (0, 2), (1, 2)), 3),
                (((0, 2),) + made("step", 3), 3), (((0, 3),) + made("step", 4), 4),
                (((0, 1), (2, 3), (0, 2), (1, 3), (1, 2)), 4)):
            with self.subTest(program):
                self.assertTrue(orders(program, places))
                assert_refused(self, lambda: shortened(program, places, True))
                self.assertTrue(orders(shortened(program, places, False), places))

    def test_one_that_keeps_but_does_not_order(self):
        for program in ((), ((0, 1),), ((0, 1), (1, 2), (2, 3))):
            self.assertTrue(keeps(program, 4))
            assert_refused(self, lambda: shortened(program, 4, True))

    def test_what_is_handed_in_stays(self):
        program = [(0, 1), [1, 0]]
        for ask in self.asked():
            assert_refused(self, lambda: ask(program, 2))
            assert_refused(self, lambda: ask(((0, 1), program), 2))
        self.assertEqual(program, [(0, 1), [1, 0]])


class Marks(unittest.TestCase):
    def test_without_idle_moves_the_very_things(self):
        row = tuple((key, [key, place]) for key, place in marked((3, 1, 2, 1)))
        program = made("quick", 4) * 3
        for thing, other in zip(run(program, row), run(without_idle(program, 4), row)):
            self.assertIs(thing[1], other[1])


if __name__ == "__main__":
    unittest.main()
