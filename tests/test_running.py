"""run and changes."""

import copy
import itertools
import unittest

from sortforge.errors import BadProgram, BadRow, BadText, ForgeError, NoRule
from sortforge.running import changes, run

STEP_OF_3 = ((0, 1), (1, 2), (0, 1))
BIG = 10 ** 29


class Shy:
    """A mark that can't be looked at."""

    def refuse(self, *rest):
        raise AssertionError("a mark was looked at")

    __eq__ = __ne__ = __lt__ = __le__ = __gt__ = __ge__ = refuse
    __bool__ = __len__ = __hash__ = __str__ = __repr__ = __iter__ = refuse


def marked(*keys):
    """A row of these keys, each marked with the place where it stood at first."""
    return tuple((key, place) for place, key in enumerate(keys))


def by_the_words(program, row):
    """The row behind the program and the numbers of the compares that changed places."""
    numbers = []
    for number, (i, j) in enumerate(program):
        if row[i][0] > row[j][0]:
            row = row[:i] + (row[j],) + row[i + 1:j] + (row[i],) + row[j + 1:]
            numbers.append(number)
    return row, numbers


class Going(unittest.TestCase):
    def assert_goes(self, program, row, behind, numbers):
        self.assertEqual(run(program, row), behind)
        self.assertEqual(changes(program, row), numbers)

    def test_one_compare(self):
        self.assert_goes(((0, 1),), ((2, "a"), (1, "b")), ((1, "b"), (2, "a")), [0])
        self.assert_goes(((0, 1),), ((1, "a"), (2, "b")), ((1, "a"), (2, "b")), [])

    def test_places_apart(self):
        self.assert_goes(((0, 2),), marked(3, 2, 1), ((1, 2), (2, 1), (3, 0)), [0])
        self.assert_goes(((1, 3),), marked(4, 3, 2, 1), ((4, 0), (1, 3), (2, 2), (3, 1)), [0])

    def test_a_program_that_orders(self):
        self.assert_goes(STEP_OF_3, marked(3, 2, 1), ((1, 2), (2, 1), (3, 0)), [0, 1, 2])
        self.assert_goes(STEP_OF_3, marked(2, 3, 1), ((1, 2), (2, 0), (3, 1)), [1, 2])
        self.assert_goes(STEP_OF_3, marked(1, 3, 2), ((1, 0), (2, 2), (3, 1)), [1])
        self.assert_goes(STEP_OF_3, marked(1, 2, 3), marked(1, 2, 3), [])

    def test_the_compares_in_the_order_of_the_program(self):
        row = marked(3, 2, 1)
        self.assert_goes(((0, 1), (1, 2)), row, ((2, 1), (1, 2), (3, 0)), [0, 1])
        self.assert_goes(((1, 2), (0, 1)), row, ((1, 2), (3, 0), (2, 1)), [0, 1])

    def test_a_compare_several_times(self):
        self.assert_goes(((0, 1), (0, 1), (0, 1)), marked(2, 1), ((1, 1), (2, 0)), [0])
        self.assert_goes(
            ((0, 1), (1, 2), (1, 2), (0, 1), (0, 1)), marked(3, 2, 1),
            ((1, 2), (2, 1), (3, 0)), [0, 1, 3])

    def test_the_empty_program(self):
        self.assert_goes((), marked(3, 1, 2), marked(3, 1, 2), [])
        self.assert_goes((), (), (), [])

    def test_a_row_with_more_things_than_wanted(self):
        self.assert_goes(((0, 1),), marked(9, 8, 7, 6), ((8, 1), (9, 0), (7, 2), (6, 3)), [0])
        self.assert_goes(((0, 1),), marked(*range(50, 0, -1)),
                         ((49, 1), (50, 0)) + marked(*range(50, 0, -1))[2:], [0])

    def test_equal_keys_stay(self):
        self.assert_goes(((0, 1),), ((5, "b"), (5, "a")), ((5, "b"), (5, "a")), [])
        self.assert_goes(STEP_OF_3, marked(0, 0, 0), marked(0, 0, 0), [])
        self.assert_goes(STEP_OF_3, marked(1, 0, 1), ((0, 1), (1, 0), (1, 2)), [0])

    def test_keys_below_nought(self):
        self.assert_goes(((0, 1),), marked(-1, -2), ((-2, 1), (-1, 0)), [0])
        self.assert_goes(((0, 1),), marked(-2, -1), marked(-2, -1), [])
        self.assert_goes(STEP_OF_3, marked(1, 0, -1), ((-1, 2), (0, 1), (1, 0)), [0, 1, 2])
        self.assert_goes(((0, 1),), marked(-2, 1), marked(-2, 1), [])

    def test_keys_of_thirty_figures(self):
        self.assertEqual(len(str(BIG)), 30)
        self.assert_goes(((0, 1),), marked(BIG + 1, BIG), ((BIG, 1), (BIG + 1, 0)), [0])
        self.assert_goes(((0, 1),), marked(BIG, BIG + 1), marked(BIG, BIG + 1), [])
        self.assert_goes(((0, 1),), marked(BIG, BIG), marked(BIG, BIG), [])
        self.assert_goes(((0, 1),), marked(-BIG, -BIG - 1), ((-BIG - 1, 1), (-BIG, 0)), [0])

    def test_marks_are_not_looked_at(self):
        marks = [Shy() for _ in range(3)]
        row = tuple(zip((2, 1, 1), marks))
        behind = run(STEP_OF_3, row)
        self.assertEqual([key for key, _ in behind], [1, 1, 2])
        for thing, at in zip(behind, (1, 2, 0)):
            self.assertIs(thing[1], marks[at])
        self.assertEqual(changes(STEP_OF_3, row), [0, 1])

    def test_marks_of_any_kind(self):
        marks = (None, "text", [1, 2], {"a": 1}, {3}, (4, 5), 1.5, b"x", True, 0, object(), len)
        for high, low in itertools.product(marks, repeat=2):
            self.assert_goes(((0, 1),), ((2, high), (1, low)), ((1, low), (2, high)), [0])
            self.assert_goes(((0, 1),), ((1, high), (1, low)), ((1, high), (1, low)), [])

    def test_each_thing_is_whole_behind_it(self):
        things = [(key, [key, place]) for place, key in enumerate((3, 1, 2, 1))]
        program = ((0, 1), (2, 3), (0, 2), (1, 3), (1, 2))
        behind = run(program, tuple(things))
        self.assertEqual(behind, ((1, [1, 1]), (1, [1, 3]), (2, [2, 2]), (3, [3, 0])))
        for thing in behind:
            self.assertIs(type(thing), tuple)
            self.assertTrue(any(thing[1] is other[1] for other in things))

    def test_by_the_words_for_all_small_programs_and_rows(self):
        compares = tuple(itertools.combinations(range(3), 2))
        for length in range(5):
            for program in itertools.product(compares, repeat=length):
                for keys in itertools.product((-1, 0, 1), repeat=3):
                    self.assert_goes(program, marked(*keys), *by_the_words(program, marked(*keys)))

    def test_the_greatest_program_and_row(self):
        program = tuple((last - 1, last) for top in range(1, 40) for last in range(top, 0, -1))
        program = (program * 3)[:2000]
        row = marked(*range(50, 0, -1))
        self.assert_goes(program, row, *by_the_words(program, row))
        self.assertEqual([key for key, _ in run(program, row)],
                         list(range(11, 51)) + list(range(10, 0, -1)))

    def test_somewhat_beyond_the_bounds(self):
        row = marked(*range(60, 0, -1))
        program = tuple((place, place + 1) for place in range(59)) * 40
        self.assertEqual(len(program), 2360)
        self.assert_goes(program, row, *by_the_words(program, row))


class Own(unittest.TestCase):
    def test_what_is_handed_in_stays(self):
        program = ((0, 1), (1, 2), (0, 1))
        row = ((3, ["a"]), (2, ["b"]), (1, ["c"]))
        before = copy.deepcopy((program, row))
        run(program, row)
        changes(program, row)
        self.assertEqual((program, row), before)

    def test_the_kinds(self):
        for row in (marked(3, 2, 1), marked(1, 2, 3)):
            self.assertIs(type(run(STEP_OF_3, row)), tuple)
            self.assertIs(type(changes(STEP_OF_3, row)), list)
        self.assertIs(type(run((), ())), tuple)
        self.assertIs(type(changes((), ())), list)
        self.assertEqual([type(number) for number in changes(STEP_OF_3, marked(3, 2, 1))], [int] * 3)

    def test_the_list_told_is_the_askers_own(self):
        for row, numbers in ((marked(3, 2, 1), [0, 1, 2]), (marked(1, 2, 3), [])):
            told = changes(STEP_OF_3, row)
            told.append("mine")
            self.assertEqual(changes(STEP_OF_3, row), numbers)

    def test_a_second_answer_is_the_same(self):
        row = marked(3, 1, 2)
        self.assertEqual(run(STEP_OF_3, row), run(STEP_OF_3, row))
        self.assertEqual(changes(STEP_OF_3, row), changes(STEP_OF_3, row))


class TooShort(unittest.TestCase):
    def assert_refused(self, program, row):
        for asked in (run, changes):
            with self.subTest(asked.__name__):
                for error in (BadRow, ForgeError, ValueError):
                    with self.assertRaises(error):
                        asked(program, row)
                with self.assertRaises(BadRow) as caught:
                    asked(program, row)
                for other in (BadProgram, NoRule, BadText):
                    self.assertNotIsInstance(caught.exception, other)

    def test_one_thing_too_few(self):
        self.assert_refused(((0, 1),), marked(1))
        self.assert_refused(STEP_OF_3, marked(1, 2))
        self.assert_refused(((0, 39),), marked(*range(39)))

    def test_no_things(self):
        self.assert_refused(((0, 1),), ())
        self.assert_refused(STEP_OF_3, ())

    def test_just_enough_things(self):
        self.assertEqual(run(((0, 1),), marked(1, 2)), marked(1, 2))
        self.assertEqual(run(((0, 39),), marked(*range(40))), marked(*range(40)))
        self.assertEqual(changes(((0, 39),), marked(*range(40))), [])

    def test_the_greatest_place_counts_wherever_it_stands(self):
        for program in itertools.permutations(((0, 4), (0, 1), (2, 3))):
            self.assert_refused(program, marked(1, 2, 3, 4))
            self.assertEqual(run(program, marked(1, 2, 3, 4, 5)), marked(1, 2, 3, 4, 5))

    def test_the_empty_program_refuses_no_row(self):
        self.assertEqual(run((), ()), ())
        self.assertEqual(changes((), ()), [])

    def test_a_refusal_leaves_the_row_as_it_was(self):
        row = ((2, ["a"]), (1, ["b"]))
        self.assert_refused(((0, 1), (1, 2)), row)
        self.assertEqual(row, ((2, ["a"]), (1, ["b"])))


if __name__ == "__main__":
    unittest.main()
