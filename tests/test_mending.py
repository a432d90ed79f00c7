"""Points 8 to 10, and points 1 and 3 as far as they speak of mending."""

import contextlib
import copy
import inspect
import unittest

import trying
from fontfall import mending
from fontfall.errors import BadChange, BadRow, BadSign
from fontfall.faces import Case
from fontfall.mending import mended
from fontfall.showing import shown

# 1 is had by the first face, 2 by both, 3 by the second, 9 by none.
FACES = [("a", 0, (1, 2, 900)), ("b", 0, (2, 3, 900))]
# Faces with the same signs: what stands may stand by each of them.
TWINS = [("a", 1, (1, 2, 900)), ("b", 0, (1, 2, 900)), ("c", 2, (1, 2, 3, 900))]


class MendedTest(unittest.TestCase):
    def assert_mended(self, faces, text, row, change, behind):
        """behind is (faces, text, row)."""
        case, changed, mended_row = mended(Case(faces), text, row, change)
        self.assertEqual((case.faces(), changed, mended_row), behind)

    def assert_put(self, faces, text, row, change, behind):
        """behind is (text, row)."""
        self.assert_mended(faces, text, row, change, (faces, *behind))


class InterfaceTest(unittest.TestCase):
    def test_mended_is_defined_in_this_file_with_its_arguments(self):
        self.assertEqual(mending.mended.__module__, "fontfall.mending")
        self.assertEqual(list(inspect.signature(mended).parameters), ["case", "text", "row", "change"])

    def test_a_tuple_of_a_case_and_two_lists_is_told(self):
        for change in (("goes", 0), ("put", 0, 1, [2])):
            with self.subTest(change):
                told = mended(Case(FACES), [1, 2], [0, 0], change)
                self.assertIs(type(told), tuple)
                self.assertEqual([type(part) for part in told], [Case, list, list])


class GoesTest(MendedTest):
    def test_a_face_that_the_row_uses(self):
        bared = [("a", 0, ()), FACES[1]]
        self.assert_mended(FACES, [2, 2, 3], [0, 0, 1], ("goes", 0), (bared, [2, 2, 3], [1, 1, 1]))
        self.assert_mended(FACES, [1, 2, 3], [0, 0, 1], ("goes", 0), (bared, [1, 2, 3], [None, 1, 1]))

    def test_name_and_rank_stay(self):
        faces = [("x", 7, (1,)), ("y", 3, (1, 2))]
        self.assert_mended(faces, [1], [0], ("goes", 0), ([("x", 7, ()), ("y", 3, (1, 2))], [1], [1]))
        self.assert_mended(faces, [1], [0], ("goes", 1), ([("x", 7, (1,)), ("y", 3, ())], [1], [0]))

    def test_a_face_that_the_row_does_not_use(self):
        bared = [TWINS[0], TWINS[1], ("c", 2, ())]
        self.assert_mended(TWINS, [1, 2, 1], [0, 0, 0], ("goes", 2), (bared, [1, 2, 1], [0, 0, 0]))
        bared = [TWINS[0], ("b", 0, ()), TWINS[2]]
        self.assert_mended(TWINS, [1, 2, 1], [2, 2, 2], ("goes", 1), (bared, [1, 2, 1], [2, 2, 2]))

    def test_a_face_without_signs(self):
        faces = [("a", 0, ()), ("b", 0, (1,))]
        self.assert_mended(faces, [1], [1], ("goes", 0), (faces, [1], [1]))

    def test_the_only_face(self):
        self.assert_mended([("a", 0, (1,))], [1, 9], [0, None], ("goes", 0), ([("a", 0, ())], [1, 9], [None, None]))

    def test_fewest_changes_go_ahead_of_what_stood(self):
        # The row has changes that it needs not have.
        bared = [TWINS[0], TWINS[1], ("c", 2, ())]
        self.assert_mended(TWINS, [1, 1, 1], [1, 0, 1], ("goes", 2), (bared, [1, 1, 1], [1, 1, 1]))
        self.assert_mended(TWINS, [1, 1, 1], [0, 1, 0], ("goes", 2), (bared, [1, 1, 1], [0, 0, 0]))

    def test_what_stood_goes_ahead_of_ranks_and_ranks_ahead_of_the_first(self):
        bared = [TWINS[0], TWINS[1], ("c", 2, ())]
        self.assert_mended(TWINS, [1, 1], [0, 0], ("goes", 2), (bared, [1, 1], [0, 0]))
        self.assert_mended(TWINS, [1, 1], [2, 2], ("goes", 2), (bared, [1, 1], [1, 1]))
        self.assert_mended(TWINS, [1, 1], [0, 1], ("goes", 2), (bared, [1, 1], [1, 1]))
        alike = [(name, 4, (1,)) for name in "abc"]
        bared = [*alike[:2], ("c", 4, ())]
        self.assert_mended(alike, [1, 1], [2, 2], ("goes", 2), (bared, [1, 1], [0, 0]))

    def test_a_text_without_signs(self):
        self.assert_mended(FACES, [], [], ("goes", 1), ([FACES[0], ("b", 0, ())], [], []))


class PutTest(MendedTest):
    def test_put_in(self):
        self.assert_put(TWINS, [1, 1], [0, 0], ("put", 1, 1, [2]), ([1, 2, 1], [0, 0, 0]))
        self.assert_put(TWINS, [1, 1], [0, 0], ("put", 0, 0, [2]), ([2, 1, 1], [0, 0, 0]))
        self.assert_put(TWINS, [1, 1], [0, 0], ("put", 2, 2, [2]), ([1, 1, 2], [0, 0, 0]))

    def test_take_out(self):
        self.assert_put(TWINS, [1, 2, 1], [0, 0, 0], ("put", 1, 2, []), ([1, 1], [0, 0]))
        self.assert_put(TWINS, [1, 2, 1], [0, 0, 0], ("put", 0, 1, []), ([2, 1], [0, 0]))
        self.assert_put(TWINS, [1, 2, 1], [0, 0, 0], ("put", 1, 3, []), ([1], [0]))
        self.assert_put(TWINS, [1, 2, 1], [0, 0, 0], ("put", 0, 3, []), ([], []))

    def test_put_anew(self):
        self.assert_put(TWINS, [1, 2, 1], [0, 0, 0], ("put", 1, 2, [2, 2]), ([1, 2, 2, 1], [0, 0, 0, 0]))
        self.assert_put(TWINS, [1, 2], [0, 0], ("put", 1, 2, [3]), ([1, 3], [2, 2]))

    def test_nothing_out_and_nothing_in(self):
        for place in range(3):
            self.assert_put(TWINS, [1, 2], [0, 0], ("put", place, place, []), ([1, 2], [0, 0]))

    def test_into_and_out_of_a_text_without_signs(self):
        self.assert_put(TWINS, [], [], ("put", 0, 0, [1, 2]), ([1, 2], [1, 1]))
        self.assert_put(TWINS, [], [], ("put", 0, 0, []), ([], []))

    def test_what_is_put_anew_with_the_same_signs_does_not_stand(self):
        self.assert_put(TWINS, [1], [0], ("put", 0, 1, [1]), ([1], [1]))
        self.assert_put(TWINS, [1, 2], [0, 0], ("put", 0, 2, [1, 2]), ([1, 2], [1, 1]))
        self.assert_put(TWINS, [1, 9, 2], [0, None, 0], ("put", 2, 3, [2]), ([1, 9, 2], [0, None, 1]))

    def test_marks_that_join_the_cluster_ahead(self):
        self.assert_put(TWINS, [1], [0], ("put", 1, 1, [900]), ([1, 900], [1]))
        self.assert_put(TWINS, [1, 2], [0, 0], ("put", 1, 1, [900]), ([1, 900, 2], [0, 0]))
        self.assert_put(TWINS, [1, 9, 2], [0, None, 0], ("put", 1, 1, [900]), ([1, 900, 9, 2], [1, None, 0]))
        self.assert_put(TWINS, [1, 9, 2, 900], [0, None, 0], ("put", 1, 3, []), ([1, 900], [1]))

    def test_a_cluster_whose_marks_are_taken_out_does_not_stand(self):
        self.assert_put(TWINS, [1, 900], [0], ("put", 1, 2, []), ([1], [1]))
        self.assert_put(TWINS, [1, 900, 900], [0], ("put", 2, 3, []), ([1, 900], [1]))
        self.assert_put(TWINS, [900, 900, 1], [0, 0], ("put", 0, 1, []), ([900, 1], [0, 0]))

    def test_a_cluster_whose_letter_is_taken_out_does_not_stand(self):
        self.assert_put(TWINS, [1, 900, 9], [0, None], ("put", 0, 1, []), ([900, 9], [1, None]))

    def test_a_place_within_a_cluster_where_nothing_changes(self):
        # By the words: its signs are neither all ahead of the place nor all from it on.
        self.assert_put(TWINS, [1, 900], [0], ("put", 1, 1, []), ([1, 900], [1]))
        self.assert_put(TWINS, [1, 900, 9, 2], [0, None, 0], ("put", 1, 1, []), ([1, 900, 9, 2], [1, None, 0]))

    def test_marks_ahead_of_all_letters(self):
        self.assert_put(TWINS, [900], [0], ("put", 1, 1, [9]), ([900, 9], [0, None]))
        self.assert_put(TWINS, [900], [0], ("put", 0, 0, [9, 1]), ([9, 1, 900], [None, 1]))
        self.assert_put(TWINS, [900], [0], ("put", 0, 0, [900]), ([900, 900], [1]))

    def test_what_stands_behind_is_found_at_its_new_place(self):
        text, row = [1, 9, 2, 900, 9, 1], [0, None, 2, None, 0]
        self.assert_put(TWINS, text, row, ("put", 0, 1, []), (text[1:], row[1:]))
        self.assert_put(TWINS, text, row, ("put", 0, 0, [9, 9]), ([9, 9] + text, [None, None] + row))
        self.assert_put(TWINS, text, row, ("put", 4, 5, []), ([1, 9, 2, 900, 1], [0, None, 0, 0]))

    def test_what_had_none_does_not_count(self):
        self.assert_put(TWINS, [9, 1], [None, 0], ("put", 0, 1, [1]), ([1, 1], [0, 0]))
        self.assert_put(TWINS, [9, 1], [None, 0], ("put", 1, 2, [2]), ([9, 2], [None, 1]))

    def test_signs_that_no_face_has(self):
        self.assert_put(TWINS, [1, 1], [0, 0], ("put", 1, 1, [9]), ([1, 9, 1], [0, None, 0]))

    def test_bounds_of_signs(self):
        self.assert_put([], [0], [None], ("put", 1, 1, [0, 999]), ([0, 0, 999], [None, None]))


class KeptTest(MendedTest):
    def test_what_stands_stays_whole_where_the_fewest_changes_allow_it(self):
        for name, faces in trying.SIGHTS.items():
            for text in trying.texts(3, (1, 2, 3, 900)):
                for row in trying.all_rows(faces, text):
                    for change in trying.all_changes(faces, text, ((), (2,))):
                        with self.subTest(name, text=text, row=row, change=change):
                            self.assert_kept(faces, text, row, change)

    def assert_kept(self, faces, text, row, change):
        faces_behind, changed, had = trying.behind(faces, text, row, change)
        rows = trying.all_rows(faces_behind, changed)
        fewest = min(trying.unlike(row) for row in rows)
        told = mended(Case(faces), text, row, change)[2]
        self.assertEqual(trying.unlike(told), fewest)
        if any(trying.unlike(row) == fewest and trying.moved(row, had) == 0 for row in rows):
            self.assertEqual(trying.moved(told, had), 0)

    def test_all_of_one_face_stays_of_that_face(self):
        for face in range(3):
            for place in range(4):
                self.assert_put(TWINS, [1, 2, 1], [face] * 3, ("put", place, place, [2, 900]), (
                    [1, 2, 1][:place] + [2, 900] + [1, 2, 1][place:], [face] * 4
                ))

    def test_a_row_that_is_not_the_least_stays_behind_a_face_that_it_does_not_use(self):
        bared = [TWINS[0], ("b", 0, ()), TWINS[2]]
        self.assert_mended(TWINS, [1, 9, 1], [2, None, 0], ("goes", 1), (bared, [1, 9, 1], [2, None, 0]))

    def test_over_all_rows_of_short_texts(self):
        for name, faces in trying.SIGHTS.items():
            for text in trying.texts(3, (1, 2, 3, 900)):
                for row in trying.all_rows(faces, text):
                    for change in trying.all_changes(faces, text, ((), (2,), (900, 3))):
                        with self.subTest(name, text=text, row=row, change=change):
                            self.assert_mended(faces, text, row, change, trying.best_mended(faces, text, row, change))

    def test_of_thrown_cases(self):
        numbers = trying.Numbers(11)
        alphabet = [1, 2, 3, 4, 900]
        for _ in range(400):
            faces = numbers.faces(1 + numbers.below(4), alphabet)
            text = numbers.text(numbers.below(8), alphabet)
            row = numbers.one_of(trying.all_rows(faces, text))
            put = [numbers.text(numbers.below(3), alphabet)]
            change = numbers.one_of(trying.all_changes(faces, text, put))
            with self.subTest(faces=faces, text=text, row=row, change=change):
                self.assert_mended(faces, text, row, change, trying.best_mended(faces, text, row, change))

    def test_two_hundred_signs(self):
        faces = [(name, rank, tuple(range(100))) for rank, name in enumerate("abcdefgh")]
        text = list(range(100)) * 2
        case, changed, row = mended(Case(faces), text, [5] * 200, ("put", 100, 150, [7, 8]))
        self.assertEqual((changed, row), (text[:100] + [7, 8] + text[150:], [5] * 152))
        case, changed, row = mended(Case(faces), text, [5] * 120 + [6] * 80, ("goes", 5))
        self.assertEqual((changed, row), (text, [6] * 200))
        self.assertEqual(case.faces(), faces[:5] + [("f", 5, ())] + faces[6:])
        self.assertEqual(shown(case, text), [0] * 200)


class RefusalTest(unittest.TestCase):
    def refused(self, kind, text, row, change, faces=FACES):
        case = Case(faces)
        with self.assertRaises(kind) as caught:
            mended(case, text, row, change)
        self.assertIs(type(caught.exception), kind)
        self.assertEqual(case.faces(), faces)
        return caught.exception

    def test_bad_sign_goes_ahead_of_all(self):
        for row in ([], [0, 0], [7, 7, 7], [None]):
            for change in (("goes", 0), ("goes", 7), ("none",), ("put", 9, 0, [-1])):
                with self.subTest(row=row, change=change):
                    self.assertEqual(self.refused(BadSign, [1, 2, 1000, -1], row, change).place, 2)
        self.assertEqual(self.refused(BadSign, [-1], [0], ("goes", 0)).place, 0)

    def test_bad_row_goes_ahead_of_bad_change(self):
        for change in (("goes", 0), ("goes", 7), ("none", 0), ("put", 2, 1, [1]), ("put", 0, 0, [1000]), ("put",)):
            with self.subTest(change):
                self.assertEqual(self.refused(BadRow, [1, 2], [0, 2], change).place, 1)

    def test_a_row_that_is_too_short_or_too_long(self):
        for text, row, place in (
            ([1], [], 0), ([1, 2, 3], [0, 0], 2), ([1, 900, 2], [0], 1), ([], [0], 0), ([], [None], 0),
            ([1], [0, 0], 1), ([1, 900], [0, 0], 1), ([1], [0, None], 1), ([9], [None, None, None], 1), ([9], [], 0),
        ):
            with self.subTest(text=text, row=row):
                self.assertEqual(self.refused(BadRow, text, row, ("goes", 0)).place, place)

    def test_a_row_that_tells_no_choice(self):
        for text, row, place in (
            ([3], [0], 0), ([1, 2, 1], [0, 0, 1], 2), ([1], [-1], 0), ([1], [2], 0), ([2, 3], [1, 8], 1), ([9], [0], 0),
            ([1, 9, 1], [0, 1, 0], 1), ([1, 901], [0], 0),
        ):
            with self.subTest(text=text, row=row):
                self.assertEqual(self.refused(BadRow, text, row, ("goes", 0)).place, place)

    def test_none_where_there_is_a_choice(self):
        self.assertEqual(self.refused(BadRow, [1], [None], ("goes", 0)).place, 0)
        self.assertEqual(self.refused(BadRow, [9, 2, 2], [None, None, 1], ("goes", 0)).place, 1)
        self.assertEqual(self.refused(BadRow, [900, 1], [0, None], ("goes", 0)).place, 1)

    def test_the_first_bad_place_of_several_is_told(self):
        self.assertEqual(self.refused(BadRow, [1, 2, 3, 1], [0, None, 0], ("goes", 0)).place, 1)
        self.assertEqual(self.refused(BadRow, [1, 2], [1, None, 0, 7], ("goes", 0)).place, 0)
        self.assertEqual(self.refused(BadRow, [1, 2], [0, 1, 7, 7], ("goes", 0)).place, 2)

    def test_another_word(self):
        for change in (("", 0), ("go", 0), ("Goes", 0), ("goes ", 0), ("puts", 0, 0, [1]), ("", 0, 0, []), ("Put", 0, 0, [])):
            with self.subTest(change):
                self.refused(BadChange, [1, 2], [0, 0], change)

    def test_too_few_or_too_many_parts(self):
        for change in (
            (), ("goes",), ("put",), ("goes", 0, 1), ("goes", 0, 0, [1]), ("put", 0), ("put", 0, 0), ("put", 0, 0, [1], 0),
            ("put", 0, 0, [], []), ("goes", 0, 0, [], 1),
        ):
            with self.subTest(change):
                self.refused(BadChange, [1, 2], [0, 0], change)

    def test_a_face_that_there_is_not(self):
        for face in (-1, 2, 8, -2, 100):
            with self.subTest(face):
                self.refused(BadChange, [1, 2], [0, 0], ("goes", face))
        self.refused(BadChange, [1], [None], ("goes", 0), faces=[])

    def test_a_place_that_there_is_not(self):
        for begin, end in ((-1, 0), (-1, -1), (0, 3), (3, 3), (2, 3), (-2, 1), (0, -1), (5, 9)):
            with self.subTest(begin=begin, end=end):
                self.refused(BadChange, [1, 2], [0, 0], ("put", begin, end, [1]))
        self.refused(BadChange, [], [], ("put", 0, 1, []))

    def test_places_turned_about(self):
        for begin, end in ((1, 0), (2, 1), (2, 0)):
            with self.subTest(begin=begin, end=end):
                self.refused(BadChange, [1, 2], [0, 0], ("put", begin, end, [1]))

    def test_a_sign_that_there_is_not(self):
        for signs in ([-1], [1000], [1, 2, 1000], [-1, 1], [900, 5000]):
            with self.subTest(signs):
                self.refused(BadChange, [1, 2], [0, 0], ("put", 0, 1, signs))


class HandedInTest(unittest.TestCase):
    def test_what_is_handed_in_stays_as_it_was(self):
        for change in (("goes", 0), ("put", 1, 2, [3, 900]), ("goes", 9), ("put", 3, 2, [1]), ("put", 0, 0, [1000])):
            with self.subTest(change):
                case, text, row, handed = Case(FACES), [1, 2, 3], [0, 0, 1], copy.deepcopy(change)
                with contextlib.suppress(BadChange):
                    mended(case, text, row, handed)
                self.assertEqual((case.faces(), text, row, handed), (FACES, [1, 2, 3], [0, 0, 1], change))

    def test_what_is_told_may_be_changed_and_is_not_what_was_handed_in(self):
        for change in (("goes", 1), ("put", 1, 1, []), ("put", 0, 3, [1, 2, 1])):
            with self.subTest(change):
                case, text, row = Case(TWINS), [1, 2, 1], [0, 0, 0]
                first = mended(case, text, row, change)
                told = (first[0].faces(), list(first[1]), list(first[2]))
                self.assertIsNot(first[0], case)
                first[1].append(7)
                first[2].clear()
                self.assertEqual((case.faces(), text, row), (TWINS, [1, 2, 1], [0, 0, 0]))
                again = mended(case, text, row, change)
                self.assertEqual((again[0].faces(), again[1], again[2]), told)

    def test_what_was_handed_in_may_be_changed_behind(self):
        text, row, signs = [1, 2], [0, 0], [3, 900]
        case, changed, mended_row = mended(Case(FACES), text, row, ("put", 2, 2, signs))
        for handed in (text, row, signs):
            handed.clear()
        self.assertEqual((case.faces(), changed, mended_row), (FACES, [1, 2, 3, 900], [0, 0, 1]))

    def test_the_case_behind_and_the_case_ahead_stand_apart(self):
        ahead = Case(FACES)
        behind, text, row = mended(ahead, [2, 3], [1, 1], ("goes", 1))
        self.assertEqual((shown(ahead, [2, 3]), shown(behind, [2, 3])), ([1, 1], [0, None]))
        self.assertEqual(ahead.faces(), FACES)
        last, text, row = mended(behind, text, row, ("put", 1, 2, [1]))
        self.assertEqual((last.faces(), text, row), ([FACES[0], ("b", 0, ())], [2, 1], [0, 0]))


if __name__ == "__main__":
    unittest.main()
