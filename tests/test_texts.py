"""written and read."""

import itertools
import unittest

from sortforge.errors import BadProgram, BadRow, BadText, ForgeError, NoRule
from sortforge.texts import read, written

# Programs and their texts: each is written so, and read back.
PAIRS = (
    ((), ""),
    (((0, 1),), "0:1"),
    (((0, 9),), "0:9"),
    (((9, 10),), "9:10"),
    (((0, 10),), "0:10"),
    (((10, 11),), "10:11"),
    (((38, 39),), "38:39"),
    (((5, 100),), "5:100"),
    (((99, 100),), "99:100"),
    (((100, 101),), "100:101"),
    (((0, 999),), "0:999"),
    (((998, 999),), "998:999"),
    (((0, 1), (1, 2), (0, 1)), "0:1 1:2 0:1"),
    (((0, 1), (0, 1)), "0:1 0:1"),
    (((10, 20), (0, 39), (7, 123), (456, 789)), "10:20 0:39 7:123 456:789"),
)

BLANKS = (" 0:1", "0:1 ", " 0:1 ", "  0:1", "0:1  1:2", "0:1   1:2", "0:1  ", " ", "  ", "0 :1",
          "0: 1", "0 : 1", "0 1", "1 0:1", "0:1 2", "0:1 1:2 ", " 0:1 1:2", "1 0:2", "0:1 0")

NOUGHTS_AHEAD = ("00:1", "0:01", "01:2", "1:02", "00:01", "000:1", "0:001", "0:010", "010:11", "0:1 01:2",
                 "0:00", "001:100", "0:0999")

MANY_FIGURES = ("0:1000", "1000:1001", "999:1000", "0:9999", "0:1 0:1000", "0:0001", "0000:1",
                "0:" + "1" * 40, "0:" + "9" * 5000, "1" * 5000 + ":" + "2" * 5000)

OTHER_SIGNS_AHEAD = ("+0:1", "-0:1", "0:+1", "0:-1", "-1:0", "-2:-1", "+1:+2", "0:1 +1:2", "~0:1", "0:_1",
                     "#0:1", "0:*1")

NOT_LESS = ("0:0", "1:1", "1:0", "2:1", "10:9", "9:1", "100:99", "999:999", "999:0", "0:1 2:1", "2:1 0:1",
            "0:1 1:1 1:2", "11:2", "20:3")

COLONS = ("0", "1", "01", "0;1", "0.1", "0-1", "0,1", "0/1", "0=1", "0::1", "0:1:2", ":0:1", "0:1:",
          "0:1: 1:2", "0:1 1::2", "::", "0:1:1:2", "0:1 1-2", "(0, 1)", "0:1,1:2", "0:1;1:2",
          "0\uff1a1", "0\ua7891", "0\u22361")

EMPTY_PARTS = (":", ":1", "0:", ": ", " :", ":1 0:1", "0:1 :1", "0:1 0:", "0:1 :")

# Figures of other scripts, raised and lowered ones, a roman one, a half.
OTHER_FIGURES = ("\u0660:\u0661", "0:\u0661", "\u0660:1", "\u0966:\u0967", "0:\u096f", "\uff10:\uff11",
                 "0:\uff11", "0:\u00b2", "0:1\u00b2", "\u2080:\u2081", "0:\u2460", "0:\u2169", "0:\u00bd",
                 "0:\u4e00", "0:\U0001d7ce", "0:\U0001d7cf", "0:1\u0661", "0:1 1:\u0662", "0:\u0e51",
                 "0:1\u0660")

LINES_AND_TABS = ("\n", "\t", "\r", "0:1\n", "\n0:1", "0:1\r\n", "0:1\r", "0:1\t", "\t0:1", "0:1\t1:2",
                  "0:1\n1:2", "0:1 \n1:2", "0:1 1:2\n", "0\n:1", "0:\n1", "0:\t1", "0\t:1", "0:1\x0b",
                  "0:1\x0c1:2", "0:1\u00a01:2", "0:1\u20281:2", "0:1\u30001:2", "0:1\x1c1:2", "0:1\x85")

LETTERS = ("a:b", "a", "0:a", "a:1", "0x0:0x1", "0:1a", "0:0x1", "0:1e1", "0:1.0", "0.0:1", "1_0:2_0",
           "0:1_0", "step", "None", "()", "0:1 a", "0:1 None", "i:j", "\x000:1", "0:1\x00", "0:\x001",
           "\ufeff0:1", "0:1\u200b", "0:\u03011", "\ud800", "0:\ud800", "(0:1)", "0:True", "False:True")


class Written(unittest.TestCase):
    def test_programs_and_their_texts(self):
        for program, text in PAIRS:
            with self.subTest(text):
                self.assertEqual(written(program), text)

    def test_the_kind(self):
        for program, _ in PAIRS:
            self.assertIs(type(written(program)), str)

    def test_what_is_handed_in_stays(self):
        program = ((0, 1), (1, 2))
        written(program)
        self.assertEqual(program, ((0, 1), (1, 2)))

    def test_at_and_beyond_the_bounds(self):
        self.assertTrue(written(((0, 1),) * 2000) == ("0:1 " * 2000)[:-1])
        self.assertTrue(written(((38, 39),) * 2500) == ("38:39 " * 2500)[:-1])


class Read(unittest.TestCase):
    def test_texts_and_their_programs(self):
        for program, text in PAIRS:
            with self.subTest(text):
                self.assertEqual(read(text), program)

    def test_every_compare_of_small_places_and_of_those_where_a_figure_more_begins(self):
        places = (*range(13), 98, 99, 100, 101, 110, 998, 999)
        for i, j in itertools.combinations(places, 2):
            self.assertEqual(written(((i, j),)), str(i) + ":" + str(j))
            self.assertEqual(read(str(i) + ":" + str(j)), ((i, j),))

    def test_each_place_of_up_to_three_figures(self):
        for place in range(999):
            self.assertEqual(read(written(((place, 999),))), ((place, 999),))
            self.assertEqual(read(written(((0, place + 1),))), ((0, place + 1),))

    def test_what_is_written_is_read_again(self):
        compares = tuple(itertools.combinations(range(4), 2))
        for length in range(4):
            for program in itertools.product(compares, repeat=length):
                self.assertEqual(read(written(program)), program)

    def test_the_kinds(self):
        for _, text in PAIRS:
            program = read(text)
            self.assertIs(type(program), tuple)
            for compare in program:
                self.assertIs(type(compare), tuple)
                self.assertEqual([type(place) for place in compare], [int, int])

    def test_a_text_beyond_the_bounds(self):
        self.assertTrue(read(("0:1 " * 50000)[:-1]) == ((0, 1),) * 50000)
        self.assertTrue(read(" ".join(["998:999"] * 3000)) == ((998, 999),) * 3000)


class Refused(unittest.TestCase):
    def assert_refused(self, texts):
        for text in texts:
            with self.subTest(ascii(text)[:60]):
                for error in (BadText, ForgeError, ValueError):
                    with self.assertRaises(error):
                        read(text)
                with self.assertRaises(BadText) as caught:
                    read(text)
                for other in (BadProgram, BadRow, NoRule):
                    self.assertNotIsInstance(caught.exception, other)

    def test_blanks_at_the_wrong_place(self):
        self.assert_refused(BLANKS)

    def test_a_nought_ahead_of_others(self):
        self.assert_refused(NOUGHTS_AHEAD)

    def test_more_than_three_figures(self):
        self.assert_refused(MANY_FIGURES)

    def test_a_sign_ahead_of_a_number(self):
        self.assert_refused(OTHER_SIGNS_AHEAD)

    def test_the_first_number_not_less_than_the_second(self):
        self.assert_refused(NOT_LESS)

    def test_no_colon_two_of_them_or_another_sign(self):
        self.assert_refused(COLONS)

    def test_an_empty_part(self):
        self.assert_refused(EMPTY_PARTS)

    def test_figures_that_are_none_of_0_to_9(self):
        self.assert_refused(OTHER_FIGURES)

    def test_lines_tabs_and_other_blanks(self):
        self.assert_refused(LINES_AND_TABS)

    def test_letters_and_other_signs(self):
        self.assert_refused(LETTERS)

    def test_every_figure_of_every_script(self):
        for code in range(0x110000):
            sign = chr(code)
            if (sign.isnumeric() or sign.isdigit()) and sign not in "0123456789":
                self.assert_refused((sign, "0:" + sign, sign + ":9"))

    def test_every_sign_in_a_compare(self):
        for code in range(0x300):
            sign = chr(code)
            if sign not in "0123456789":
                self.assert_refused((sign, sign + "0:2", "0:2" + sign, "0" + sign + ":2"))
            if sign not in ": 0123456789":
                self.assert_refused(("0" + sign + "2", "0:1" + sign + "1:2"))

    def test_a_long_text_with_a_fault_at_its_end(self):
        self.assert_refused(("0:1 " * 20000, "0:1 " * 20000 + "1:1"))

    def test_only_what_is_written_so_is_read(self):
        signs = "019: "
        for length in range(6):
            for parts in itertools.product(signs, repeat=length):
                text = "".join(parts)
                try:
                    program = read(text)
                except BadText:
                    continue
                self.assertEqual(written(program), text)


if __name__ == "__main__":
    unittest.main()
