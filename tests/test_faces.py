"""Point 2, and point 1 as far as it speaks of a case."""

import unittest

from fontfall import faces
from fontfall.errors import BadCase
from fontfall.faces import Case

PLAIN = ("plain", 0, (1, 2, 3))
BOLD = ("bold", 4, (2, 3, 900))
NAMES = ["a", "b", "c", "d", "e", "f", "g", "h", "i"]


def bare(many):
    """Tell as many faces without signs."""
    return [(name, 0, ()) for name in NAMES[:many]]


class FacesTest(unittest.TestCase):
    def assert_refused(self, handed, word, number):
        with self.assertRaises(BadCase) as caught:
            Case(handed)
        self.assertEqual((caught.exception.word, caught.exception.number), (word, number))

    def assert_taken(self, handed):
        self.assertEqual(Case(list(handed)).faces(), handed)

    def assert_face_refused(self, face):
        """As the only face, and behind two good ones."""
        self.assert_refused([face], "face", 0)
        self.assert_refused([PLAIN, BOLD, face], "face", 2)


class InterfaceTest(unittest.TestCase):
    def test_case_is_defined_in_this_file_with_its_method(self):
        self.assertEqual(Case.__module__, "fontfall.faces")
        self.assertIn("faces", vars(Case))
        self.assertIs(faces.Case, Case)

    def test_faces_may_be_handed_in_by_name(self):
        self.assertEqual(Case(faces=[PLAIN]).faces(), [PLAIN])


class HowManyTest(FacesTest):
    def test_none_to_eight_faces_are_a_case(self):
        for many in range(9):
            with self.subTest(many):
                self.assert_taken(bare(many))

    def test_nine_faces_are_none(self):
        self.assert_refused(bare(9), "faces", 0)

    def test_faces_are_told_in_the_order_in_which_they_are_handed_in(self):
        self.assert_taken([PLAIN, BOLD])
        self.assert_taken([BOLD, PLAIN])


class NameTest(FacesTest):
    def test_one_to_eight_small_letters(self):
        for name in ("a", "z", "az", "abcdefg", "ijklmnop", "qrstuvwx", "yz", "aaaaaaaa"):
            with self.subTest(name):
                self.assert_taken([(name, 0, (1,))])

    def test_no_letter(self):
        self.assert_face_refused(("", 0, (1,)))

    def test_nine_letters(self):
        self.assert_face_refused(("abcdefghi", 0, (1,)))

    def test_another_sign(self):
        for name in ("A", "aB", "Ab", "a1", "1", "a b", " a", "a ", " ", "a-b", "a_", "a\n", "`", "{", "\u00e9", "\u00df"):
            with self.subTest(name):
                self.assert_face_refused((name, 0, (1,)))

    def test_a_name_that_stands_ahead(self):
        self.assert_refused([PLAIN, PLAIN], "face", 1)
        self.assert_refused([PLAIN, BOLD, ("plain", 9, ())], "face", 2)
        self.assert_refused([PLAIN, BOLD, ("bold", 9, ())], "face", 2)
        self.assert_refused([PLAIN, ("plain", 9, ()), ("plain", 8, ())], "face", 1)

    def test_names_of_which_one_begins_the_other_are_two(self):
        self.assert_taken([("ab", 0, ()), ("a", 0, ()), ("abc", 0, ()), ("b", 0, ())])


class RankTest(FacesTest):
    def test_from_0_to_9(self):
        for rank in range(10):
            with self.subTest(rank):
                self.assert_taken([("a", rank, (1,))])

    def test_below_0_and_above_9(self):
        for rank in (-1, 10, -9, 99):
            with self.subTest(rank):
                self.assert_face_refused(("a", rank, (1,)))

    def test_a_rank_may_stand_twice(self):
        self.assert_taken([("a", 3, ()), ("b", 3, ())])


class SignsTest(FacesTest):
    def test_rising_signs(self):
        for signs in ((), (0,), (799,), (800,), (999,), (0, 999), (0, 1, 2), (799, 800)):
            with self.subTest(signs):
                self.assert_taken([("a", 0, signs)])

    def test_no_sign(self):
        for signs in ((-1,), (1000,), (-1, 0), (999, 1000), (-5, -4), (1, 2, 5000)):
            with self.subTest(signs):
                self.assert_face_refused(("a", 0, signs))

    def test_signs_that_do_not_rise(self):
        for signs in ((2, 1), (1, 3, 2), (2, 1, 3), (900, 1), (3, 2, 1)):
            with self.subTest(signs):
                self.assert_face_refused(("a", 0, signs))

    def test_a_sign_that_stands_twice(self):
        for signs in ((1, 1), (1, 2, 2), (1, 1, 2), (999, 999)):
            with self.subTest(signs):
                self.assert_face_refused(("a", 0, signs))

    def test_hundred_signs(self):
        self.assert_taken([("a", 0, tuple(range(100)))])
        self.assert_taken([("a", 0, tuple(range(900, 1000)))])

    def test_more_than_hundred_signs(self):
        for many in (101, 500, 1000):
            with self.subTest(many):
                self.assert_face_refused(("a", 0, tuple(range(many))))

    def test_faces_may_have_the_same_signs(self):
        self.assert_taken([("a", 0, (1, 2)), ("b", 0, (1, 2))])


class SeveralFaultsTest(FacesTest):
    def test_how_many_goes_ahead_of_a_bad_face(self):
        self.assert_refused([("", 10, (2, 1))] + bare(8), "faces", 0)
        self.assert_refused(bare(8) + [("a", 0, ())], "faces", 0)

    def test_the_first_bad_face_is_told(self):
        bad = [("", 0, ()), ("x", 10, ()), ("y", 0, (2, 1)), PLAIN]
        for first in bad:
            for second in bad:
                with self.subTest(first=first, second=second):
                    self.assert_refused([PLAIN, first, second], "face", 1)
                    self.assert_refused([PLAIN, BOLD, first, ("z", 0, ()), second], "face", 2)

    def test_the_kind_of_fault_does_not_count(self):
        self.assert_refused([PLAIN, ("x", 0, (2, 1)), ("", 0, ())], "face", 1)
        self.assert_refused([PLAIN, ("x", 0, (1000,)), PLAIN], "face", 1)
        self.assert_refused([PLAIN, PLAIN, ("", 0, ())], "face", 1)
        self.assert_refused([PLAIN, BOLD, ("x", -1, ()), BOLD], "face", 2)

    def test_a_bad_face_with_several_faults(self):
        self.assert_refused([PLAIN, ("plain", 10, (2, 1)), BOLD], "face", 1)

    def test_the_last_of_eight(self):
        self.assert_refused(bare(7) + [("h", 10, ())], "face", 7)


class HandedInTest(FacesTest):
    def test_the_list_stays_as_it_was(self):
        handed = [PLAIN, BOLD]
        Case(handed).faces()
        self.assertEqual(handed, [PLAIN, BOLD])

    def test_a_refused_list_stays_as_it_was(self):
        for bad in (bare(9), [PLAIN, PLAIN], [("x", 10, ()), PLAIN]):
            with self.subTest(bad):
                handed = list(bad)
                with self.assertRaises(BadCase):
                    Case(handed)
                self.assertEqual(handed, bad)

    def test_the_list_may_be_changed_behind(self):
        handed = [PLAIN, BOLD]
        case = Case(handed)
        handed[0] = ("other", 9, ())
        handed.append(PLAIN)
        self.assertEqual(case.faces(), [PLAIN, BOLD])
        handed.clear()
        self.assertEqual(case.faces(), [PLAIN, BOLD])

    def test_what_is_told_may_be_changed(self):
        case = Case([PLAIN, BOLD])
        told = case.faces()
        told[0] = BOLD
        told.append(PLAIN)
        self.assertEqual(case.faces(), [PLAIN, BOLD])
        case.faces().clear()
        self.assertEqual(case.faces(), [PLAIN, BOLD])

    def test_two_cases_of_one_list_stay_apart(self):
        handed = [PLAIN]
        first = Case(handed)
        handed.append(BOLD)
        second = Case(handed)
        self.assertEqual(first.faces(), [PLAIN])
        self.assertEqual(second.faces(), [PLAIN, BOLD])

    def test_a_list_of_tuples_is_told(self):
        told = Case([PLAIN, BOLD]).faces()
        self.assertIs(type(told), list)
        for face in told:
            self.assertIs(type(face), tuple)
            self.assertIs(type(face[2]), tuple)


if __name__ == "__main__":
    unittest.main()
