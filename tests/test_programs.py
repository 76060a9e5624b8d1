"""is_program, places_of and layers."""

import itertools
import unittest

from sortforge.programs import is_program, layers, places_of


def all_compares(places):
    return tuple(itertools.combinations(range(places), 2))


class IsProgram(unittest.TestCase):
    def assert_is(self, thing, places):
        self.assertIs(is_program(thing, places), True)

    def assert_is_not(self, thing, places):
        self.assertIs(is_program(thing, places), False)

    def test_the_empty_program_is_one_of_any_number_of_places(self):
        for places in range(41):
            self.assert_is((), places)

    def test_all_compares_of_0_to_40_places(self):
        for places in range(41):
            self.assert_is(all_compares(places), places)
            self.assert_is(all_compares(places)[::-1], places)

    def test_the_greatest_place_stands_below_the_number_of_places(self):
        for places in range(2, 41):
            program = ((0, 1), (0, places - 1), (0, 1))
            self.assert_is(program, places)
            self.assert_is(program, places + 1)
            self.assert_is_not(program, places - 1)

    def test_no_compare_goes_into_no_or_one_place(self):
        for places in (0, 1):
            for program in (((0, 1),), ((0, 0),), ((1, 2),), ((-1, 0),)):
                self.assert_is_not(program, places)

    def test_every_compare_of_three_places_and_around(self):
        for i, j in itertools.product(range(-2, 5), repeat=2):
            self.assertIs(is_program(((i, j),), 3), (i, j) in ((0, 1), (0, 2), (1, 2)))

    def test_a_compare_may_stand_several_times(self):
        self.assert_is(((1, 2), (0, 1), (1, 2), (1, 2)), 3)

    def test_beyond_the_bounds(self):
        self.assert_is(((0, 998), (997, 998)), 999)
        self.assert_is_not(((0, 998), (997, 999)), 999)
        self.assert_is(((0, 10 ** 30),), 10 ** 30 + 1)
        self.assert_is_not(((0, 10 ** 30),), 10 ** 30)
        self.assert_is(((0, 1),) * 5000, 2)
        self.assert_is_not(((0, 1),) * 5000 + ((1, 1),), 2)

    def test_what_is_no_tuple(self):
        things = ([], [(0, 1)], {}, {(0, 1): True}, set(), {(0, 1)}, frozenset(), "", "0:1", b"",
                  b"ab", None, 0, 1, -1, 10 ** 30, 1.5, float("nan"), True, False, range(0),
                  iter(()), object(), tuple, is_program, NotImplemented, ...)
        for thing in things:
            with self.subTest(repr(thing)):
                self.assert_is_not(thing, 0)
                self.assert_is_not(thing, 3)

    def test_a_compare_that_is_no_tuple(self):
        for thing in ([0, 1], {0: 1, 1: 2}, {0, 1}, "01", b"\x00\x01", None, 0, 1, True, False,
                      1.5, range(2), object(), "", [], {}):
            with self.subTest(repr(thing)):
                self.assert_is_not((thing,), 3)
                self.assert_is_not(((0, 1), thing), 3)
                self.assert_is_not((thing, (0, 1)), 3)

    def test_a_compare_of_another_length(self):
        for thing in ((), (0,), (1,), (0, 1, 2), (0, 1, 1), (0, 1, 2, 3)):
            with self.subTest(repr(thing)):
                self.assert_is_not((thing,), 4)
                self.assert_is_not(((0, 1), thing), 4)

    def test_a_compare_in_the_place_of_a_program(self):
        self.assert_is_not((0, 1), 2)

    def test_a_program_within_a_program(self):
        self.assert_is_not((((0, 1),),), 2)
        self.assert_is_not((((0, 1), (1, 2)),), 3)

    def test_a_place_with_itself_and_a_compare_turned_about(self):
        for bad in ((0, 0), (1, 1), (2, 2), (1, 0), (2, 0), (2, 1)):
            with self.subTest(repr(bad)):
                self.assert_is_not((bad,), 3)
                self.assert_is_not(((0, 1), bad, (1, 2)), 3)

    def test_a_place_below_nought(self):
        for bad in ((-1, 0), (-1, 1), (-2, -1), (0, -1), (-3, 2)):
            with self.subTest(repr(bad)):
                self.assert_is_not((bad,), 3)
                self.assert_is_not(((0, 1), bad), 3)

    def test_a_place_beyond_the_places(self):
        for bad in ((0, 3), (2, 3), (3, 4), (0, 40), (0, 10 ** 30)):
            with self.subTest(repr(bad)):
                self.assert_is_not((bad,), 3)
                self.assert_is_not(((0, 1), bad, (1, 2)), 3)

    def test_a_place_that_is_no_number(self):
        for bad in (True, False, "0", "1", "", None, (), (0,), (0, 1), [], [1], {}, 0.0, 1.0, 0.5,
                    b"1", 1j, float("nan"), float("inf"), object()):
            for compare in ((bad, 2), (0, bad), (1, bad), (bad, bad)):
                with self.subTest(repr(compare)):
                    self.assert_is_not((compare,), 3)
                    self.assert_is_not(((0, 1), compare), 3)

    def test_what_is_asked_about_stays(self):
        thing = [(0, 1), [1, 0]]
        is_program(thing, 2)
        is_program((thing, thing[1]), 2)
        self.assertEqual(thing, [(0, 1), [1, 0]])


class PlacesOf(unittest.TestCase):
    def test_the_empty_program(self):
        self.assertEqual(places_of(()), 0)

    def test_one_compare(self):
        self.assertEqual(places_of(((0, 1),)), 2)
        self.assertEqual(places_of(((1, 2),)), 3)
        self.assertEqual(places_of(((0, 39),)), 40)

    def test_the_greatest_place_first_amid_and_last(self):
        self.assertEqual(places_of(((0, 5), (0, 1), (2, 3))), 6)
        self.assertEqual(places_of(((0, 1), (0, 5), (2, 3))), 6)
        self.assertEqual(places_of(((0, 1), (2, 3), (0, 5))), 6)

    def test_the_greatest_place_is_not_that_of_the_greatest_compare(self):
        self.assertEqual(places_of(((0, 9), (7, 8), (1, 2))), 10)

    def test_all_compares_of_2_to_40_places(self):
        for places in range(2, 41):
            self.assertEqual(places_of(all_compares(places)), places)
            self.assertEqual(places_of(all_compares(places)[::-1]), places)

    def test_beyond_the_bounds(self):
        self.assertEqual(places_of(((0, 1),) * 2100 + ((0, 60), (0, 1))), 61)


def layers_by_the_words(program):
    """What the document says of layers, compare by compare, for small programs."""
    numbers = []
    for at, compare in enumerate(program):
        ahead = [numbers[k] for k in range(at) if set(program[k]) & set(compare)]
        numbers.append(max(ahead) + 1 if ahead else 0)
    return tuple(
        tuple(compare for at, compare in enumerate(program) if numbers[at] == number)
        for number in range(max(numbers, default=-1) + 1))


class Layers(unittest.TestCase):
    def test_the_empty_program(self):
        self.assertEqual(layers(()), ())

    def test_one_compare(self):
        self.assertEqual(layers(((2, 5),)), (((2, 5),),))

    def test_compares_that_share_no_place(self):
        self.assertEqual(layers(((0, 1), (2, 3), (4, 5))), (((0, 1), (2, 3), (4, 5)),))

    def test_the_order_within_a_layer_is_that_of_the_program(self):
        self.assertEqual(layers(((4, 5), (0, 3), (1, 2))), (((4, 5), (0, 3), (1, 2)),))

    def test_compares_that_share_one_place(self):
        for first, second in (((0, 1), (1, 2)), ((0, 1), (0, 2)), ((0, 2), (1, 2)), ((1, 2), (0, 1))):
            self.assertEqual(layers((first, second)), ((first,), (second,)))

    def test_compares_that_share_both_places(self):
        self.assertEqual(layers(((0, 1), (0, 1))), (((0, 1),), ((0, 1),)))
        self.assertEqual(layers(((0, 1),) * 4), (((0, 1),),) * 4)

    def test_the_same_compare_twice_around_others(self):
        self.assertEqual(
            layers(((0, 1), (2, 3), (0, 1), (2, 3))),
            (((0, 1), (2, 3)), ((0, 1), (2, 3))))

    def test_a_later_compare_goes_into_an_early_layer(self):
        self.assertEqual(
            layers(((0, 1), (1, 2), (0, 1), (3, 4))),
            (((0, 1), (3, 4)), ((1, 2),), ((0, 1),)))
        self.assertEqual(
            layers(((0, 1), (1, 2), (0, 1), (3, 4), (4, 5), (5, 6))),
            (((0, 1), (3, 4)), ((1, 2), (4, 5)), ((0, 1), (5, 6))))

    def test_the_latest_of_both_places_counts(self):
        self.assertEqual(
            layers(((0, 1), (0, 1), (2, 3), (1, 2))),
            (((0, 1), (2, 3)), ((0, 1),), ((1, 2),)))
        self.assertEqual(
            layers(((2, 3), (2, 3), (0, 1), (1, 2))),
            (((2, 3), (0, 1)), ((2, 3),), ((1, 2),)))

    def test_a_place_between_is_not_in_common(self):
        self.assertEqual(layers(((0, 3), (1, 2))), (((0, 3), (1, 2)),))
        self.assertEqual(layers(((0, 2), (1, 3))), (((0, 2), (1, 3)),))

    def test_by_the_words_for_all_small_programs(self):
        for length in range(5):
            for program in itertools.product(all_compares(4), repeat=length):
                self.assertEqual(layers(program), layers_by_the_words(program))

    def test_the_same_compares_all_together(self):
        for program in itertools.product(all_compares(5), repeat=3):
            told = [compare for layer in layers(program) for compare in layer]
            self.assertEqual(sorted(told), sorted(program))

    def test_no_layer_is_empty_or_shares_a_place(self):
        program = all_compares(40) + all_compares(40)[::-1]
        told = layers(program)
        for layer in told:
            places = [place for compare in layer for place in compare]
            self.assertGreater(len(places), 0)
            self.assertEqual(len(places), len(set(places)))
        self.assertTrue(told == layers_by_the_words(program))

    def test_the_kinds(self):
        told = layers(((0, 1), (1, 2), (3, 4)))
        self.assertIs(type(told), tuple)
        self.assertIs(type(layers(())), tuple)
        for layer in told:
            self.assertIs(type(layer), tuple)
            for compare in layer:
                self.assertIs(type(compare), tuple)
                self.assertEqual([type(place) for place in compare], [int, int])

    def test_a_second_answer_is_the_same(self):
        program = ((0, 1), (1, 2), (0, 1), (3, 4))
        self.assertEqual(layers(program), layers(program))
        self.assertEqual(program, ((0, 1), (1, 2), (0, 1), (3, 4)))

    def test_at_and_beyond_the_bounds(self):
        # Without assertEqual, which takes minutes to show how two so long answers differ.
        self.assertTrue(layers(((0, 1),) * 2000) == (((0, 1),),) * 2000)
        wide = tuple((place, place + 1) for place in range(0, 60, 2))
        self.assertEqual(layers(wide), (wide,))


if __name__ == "__main__":
    unittest.main()
