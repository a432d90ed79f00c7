"""Point 11, and point 1 as far as it speaks of written cases."""

import inspect
import unittest

import trying
from fontfall import notes
from fontfall.errors import BadCase, BadText
from fontfall.faces import Case
from fontfall.notes import read, written

PLAIN = ("plain", 0, (1, 2, 3))
BOLD = ("bold", 4, (2, 30, 900))


class NotesTest(unittest.TestCase):
    def assert_read(self, text, faces):
        case = read(text)
        self.assertIs(type(case), Case)
        self.assertEqual(case.faces(), faces)

    def assert_bad_text(self, text, row):
        with self.assertRaises(BadText) as caught:
            read(text)
        self.assertIs(type(caught.exception), BadText)
        self.assertEqual(caught.exception.row, row)

    def assert_bad_row(self, row):
        """As the only row, and as the first, the second and the last of three."""
        self.assert_bad_text(row, 0)
        for place in range(3):
            rows = ["face a 0 1", "face b 0", "face c 0"]
            rows[place] = row
            self.assert_bad_text("\n".join(rows), place)

    def assert_bad_case(self, text, word, number):
        with self.assertRaises(BadCase) as caught:
            read(text)
        self.assertIs(type(caught.exception), BadCase)
        self.assertEqual((caught.exception.word, caught.exception.number), (word, number))


class InterfaceTest(unittest.TestCase):
    def test_the_functions_are_defined_in_this_file_with_their_arguments(self):
        for name, arguments in {"written": ["case"], "read": ["text"]}.items():
            with self.subTest(name):
                function = getattr(notes, name)
                self.assertEqual(function.__module__, "fontfall.notes")
                self.assertEqual(list(inspect.signature(function).parameters), arguments)


class WrittenTest(unittest.TestCase):
    def test_cases(self):
        for faces, text in (
            ([], ""),
            ([("a", 0, ())], "face a 0"),
            ([PLAIN], "face plain 0 1 2 3"),
            ([PLAIN, BOLD], "face plain 0 1 2 3\nface bold 4 2 30 900"),
            ([BOLD, ("c", 9, ()), PLAIN], "face bold 4 2 30 900\nface c 9\nface plain 0 1 2 3"),
            ([("abcdefgh", 9, (0, 7, 10, 99, 100, 999))], "face abcdefgh 9 0 7 10 99 100 999"),
        ):
            with self.subTest(faces):
                self.assertEqual(written(Case(faces)), text)

    def test_the_case_stays_as_it_was(self):
        case = Case([PLAIN, BOLD])
        self.assertEqual(written(case), written(case))
        self.assertEqual(case.faces(), [PLAIN, BOLD])


class ReadTest(NotesTest):
    def test_each_case_is_read_back(self):
        numbers = trying.Numbers(3)
        cases = list(trying.SIGHTS.values()) + [numbers.faces(many, range(0, 1000, 9)[:100]) for many in range(9)]
        cases.append([(name, 9, tuple(range(900, 1000))) for name in "abcdefgh"])
        for faces in cases:
            with self.subTest(faces):
                self.assert_read(written(Case(faces)), faces)

    def test_the_empty_text_is_the_case_of_no_faces(self):
        self.assert_read("", [])
        self.assertEqual(written(read("")), "")

    def test_kinds_of_values(self):
        (name, rank, signs), = read("face a 3 1 2").faces()
        self.assertEqual([type(part) for part in (name, rank, signs, *signs)], [str, int, tuple, int, int])

    def test_a_0_that_is_not_needless(self):
        self.assert_read("face a 0 0", [("a", 0, (0,))])
        self.assert_read("face a 0 0 10 100 101 200", [("a", 0, (0, 10, 100, 101, 200))])

    def test_two_read_cases_stand_apart(self):
        first, second = read("face a 0 1"), read("face a 0 1")
        first.faces().clear()
        self.assertEqual((first.faces(), second.faces()), ([("a", 0, (1,))], [("a", 0, (1,))]))


class BadTextTest(NotesTest):
    def test_an_odd_word(self):
        for row in ("Face a 0", "faces a 0", "fac a 0", "case a 0", "a 0 1", "a face 0", "0 a 0", "face\ta 0"):
            with self.subTest(row):
                self.assert_bad_row(row)

    def test_an_odd_name(self):
        for name in ("A", "aB", "a1", "1", "abcdefghi", "a-b", "a_", "\u00e9", "a,", ""):
            with self.subTest(name):
                self.assert_bad_row(f"face {name} 0 1")

    def test_too_few_words(self):
        for row in ("face", "face a", "a", "0", "face 0", "face 0 1 2"):
            with self.subTest(row):
                self.assert_bad_row(row)

    def test_no_number(self):
        for word in ("x", "-1", "+1", "1.", "1,", "1x", "\u00b2", "\u0661", "1_0", "0x1", "a", "-"):
            with self.subTest(word):
                self.assert_bad_row(f"face a {word}")
                self.assert_bad_row(f"face a 0 {word}")
                self.assert_bad_row(f"face a 0 1 {word} 3")

    def test_a_needless_0(self):
        for word in ("00", "000", "01", "001", "07", "007", "010", "099"):
            with self.subTest(word):
                self.assert_bad_row(f"face a {word}")
                self.assert_bad_row(f"face a 0 {word}")
                self.assert_bad_row(f"face a 0 1 {word} 300")

    def test_four_figures(self):
        for word in ("1000", "0000", "0001", "12345"):
            with self.subTest(word):
                self.assert_bad_row(f"face a {word}")
                self.assert_bad_row(f"face a 0 {word}")
                self.assert_bad_row(f"face a 0 1 2 {word}")

    def test_a_blank_more(self):
        for row in (" face a 0", "face  a 0", "face a  0", "face a 0 ", "face a 0  1", "face a 0 1 ", "face a ", " "):
            with self.subTest(row):
                self.assert_bad_row(row)

    def test_another_blank(self):
        for row in ("face\u00a0a 0", "face a\t0", "face a 0\t1", "face a 0\r", "face a 0\u2028", "face a 0\x0b1"):
            with self.subTest(row):
                self.assert_bad_row(row)

    def test_an_empty_row(self):
        self.assert_bad_text("\n", 0)
        self.assert_bad_text("\nface a 0", 0)
        self.assert_bad_text("face a 0\n", 1)
        self.assert_bad_text("face a 0\n\nface b 0", 1)
        self.assert_bad_text("face a 0\nface b 0\n\n", 2)

    def test_the_first_row_of_several_is_told(self):
        self.assert_bad_text("face a 0\nface B 0\nface\nface c 0", 1)
        self.assert_bad_text("face a 0\nface b 0 1000\nnone 0\n", 1)

    def test_bad_text_goes_ahead_of_bad_case(self):
        self.assert_bad_text("face a 10\nface a 0 2 1\nface b", 2)
        self.assert_bad_text("face a 0\nface a 0\nface a 0 1000", 2)
        self.assert_bad_text("face a 0\nface a 0\nface b 00", 2)
        self.assert_bad_text("face a 0 00 918\nface a 0 00 918\nface b 7 400 401 918 936", 0)
        self.assert_bad_text("face a 0 1 01", 0)
        self.assert_bad_text("\n".join(["face a 0"] * 9 + ["face"]), 9)


class BadCaseTest(NotesTest):
    def test_rows_that_are_so_by_their_words(self):
        self.assert_bad_case("face a 10", "face", 0)
        self.assert_bad_case("face a 999", "face", 0)
        self.assert_bad_case("face a 0\nface b 0 2 1", "face", 1)
        self.assert_bad_case("face a 0\nface b 0 1 1", "face", 1)
        self.assert_bad_case("face a 0\nface b 0\nface a 0", "face", 2)
        self.assert_bad_case("face a 0 " + " ".join(str(sign) for sign in range(101)), "face", 0)

    def test_more_than_eight_rows(self):
        self.assert_bad_case("\n".join(f"face {name} 0" for name in "abcdefghi"), "faces", 0)
        self.assert_bad_case("\n".join(["face a 99"] * 9), "faces", 0)

    def test_the_first_bad_face_of_several_is_told(self):
        self.assert_bad_case("face a 0\nface b 10\nface a 0", "face", 1)


if __name__ == "__main__":
    unittest.main()
