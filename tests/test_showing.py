"""Points 4 and 5, and points 1 and 3 as far as they speak of showing."""

import inspect
import unittest

import trying
from fontfall import showing
from fontfall.errors import BadSign
from fontfall.faces import Case
from fontfall.showing import changes, choices, missing, runs, shown

PLAIN = ("plain", 0, (1, 2, 3))
BOLD = ("bold", 4, (2, 3, 900))
WIDE = ("wide", 2, (3, 4, 900, 901))
CASE = Case([PLAIN, BOLD, WIDE])


class InterfaceTest(unittest.TestCase):
    def test_the_functions_are_defined_in_this_file_with_their_arguments(self):
        listed = {"choices": "case text", "missing": "case text", "shown": "case text", "changes": "row", "runs": "case text"}
        for name, arguments in listed.items():
            with self.subTest(name):
                function = getattr(showing, name)
                self.assertEqual(function.__module__, "fontfall.showing")
                self.assertEqual(list(inspect.signature(function).parameters), arguments.split())

    def test_kinds_of_values(self):
        told = choices(CASE, [1, 4, 5])
        self.assertIs(type(told), list)
        self.assertEqual({type(faces) for faces in told}, {list})
        self.assertIs(type(missing(CASE, [5])), list)
        self.assertIs(type(shown(CASE, [1, 5])), list)
        self.assertIs(type(changes([0, 1])), int)
        self.assertIs(type(runs(CASE, [1, 5])), list)
        self.assertEqual({type(run) for run in runs(CASE, [1, 5])}, {tuple})


class ChoicesTest(unittest.TestCase):
    def test_the_faces_that_have_all_signs_rising(self):
        self.assertEqual(choices(CASE, [1, 2, 3, 4]), [[0], [0, 1], [0, 1, 2], [2]])

    def test_marks_count(self):
        self.assertEqual(choices(CASE, [3]), [[0, 1, 2]])
        self.assertEqual(choices(CASE, [3, 900]), [[1, 2]])
        self.assertEqual(choices(CASE, [3, 900, 901]), [[2]])
        self.assertEqual(choices(CASE, [3, 900, 901, 902]), [[]])

    def test_marks_ahead_of_all_letters(self):
        self.assertEqual(choices(CASE, [900, 3]), [[1, 2], [0, 1, 2]])
        self.assertEqual(choices(CASE, [901, 900, 1]), [[2], [0]])

    def test_no_choice_although_each_sign_is_had(self):
        self.assertEqual(choices(CASE, [1, 900]), [[]])
        self.assertEqual(missing(CASE, [1, 900]), [])

    def test_no_choice_as_no_face_has_the_sign(self):
        self.assertEqual(choices(CASE, [1, 5, 1]), [[0], [], [0]])

    def test_a_text_without_signs(self):
        self.assertEqual(choices(CASE, []), [])

    def test_no_faces(self):
        self.assertEqual(choices(Case([]), [1, 900, 2]), [[], []])
        self.assertEqual(choices(Case([]), []), [])

    def test_eight_faces(self):
        faces = [(name, 0, (1,)) for name in "abcdefgh"]
        self.assertEqual(choices(Case(faces), [1]), [[0, 1, 2, 3, 4, 5, 6, 7]])

    def test_bounds_of_signs(self):
        faces = [("a", 0, (0, 799)), ("b", 0, (799, 800, 999))]
        self.assertEqual(choices(Case(faces), [0, 799, 799, 800, 999]), [[0], [0, 1], [1]])

    def test_against_the_words_of_the_document(self):
        for name, faces in trying.SIGHTS.items():
            for text in trying.texts(4):
                with self.subTest(name, text=text):
                    self.assertEqual(choices(Case(faces), text), trying.choices_of(faces, text))


class MissingTest(unittest.TestCase):
    def test_none(self):
        self.assertEqual(missing(CASE, []), [])
        self.assertEqual(missing(CASE, [1, 2, 3, 4, 900, 901]), [])

    def test_each_once_and_rising(self):
        self.assertEqual(missing(CASE, [7, 5, 7, 1, 5, 6]), [5, 6, 7])
        self.assertEqual(missing(CASE, [999, 0, 902]), [0, 902, 999])

    def test_signs_of_a_cluster_are_told_by_themselves(self):
        self.assertEqual(missing(CASE, [1, 902, 5, 900, 902]), [5, 902])

    def test_signs_of_faces_that_the_text_has_not_are_not_told(self):
        self.assertEqual(missing(CASE, [5]), [5])

    def test_no_faces(self):
        self.assertEqual(missing(Case([]), [3, 900, 1, 3]), [1, 3, 900])
        self.assertEqual(missing(Case([("a", 0, ())]), [3, 900, 1, 3]), [1, 3, 900])


class ChangesTest(unittest.TestCase):
    def test_rows(self):
        for row, many in (
            ([], 0), ([0], 0), ([None], 0), ([0, 0], 0), ([0, 1], 1), ([1, 0], 1), ([None, None], 0), ([None, 0], 1),
            ([0, None], 1), ([0, None, 0], 2), ([0, 1, 0, 1], 3), ([0, 0, 1, 1, None, None, 7], 3), ([7] * 200, 0),
            ([3, 2] * 100, 199),
        ):
            with self.subTest(row):
                self.assertEqual(changes(row), many)

    def test_the_row_stays_as_it_was(self):
        row = [0, None, 1]
        changes(row)
        self.assertEqual(row, [0, None, 1])


class ShownTest(unittest.TestCase):
    def assert_shown(self, faces, text, row):
        self.assertEqual(shown(Case(faces), text), row)

    def test_a_text_without_signs(self):
        self.assert_shown([PLAIN], [], [])
        self.assert_shown([], [], [])

    def test_fewest_changes_go_ahead_of_ranks(self):
        faces = [("near", 0, (1, 2)), ("far", 9, (1, 2, 3))]
        self.assert_shown(faces, [1, 2, 1], [0, 0, 0])
        self.assert_shown(faces, [1, 2, 3], [1, 1, 1])

    def test_least_ranks_of_several_with_the_fewest_changes(self):
        faces = [("a", 5, (1, 2, 3)), ("b", 1, (3, 4)), ("c", 3, (2, 3))]
        self.assert_shown(faces, [2, 3], [2, 2])
        self.assert_shown(faces, [1, 3, 3, 4], [0, 1, 1, 1])
        self.assert_shown([("a", 1, (1, 3)), ("b", 5, (3, 4))], [1, 3, 3, 4], [0, 0, 0, 1])

    def test_ranks_are_counted_cluster_by_cluster(self):
        # By the faces used: 1 and 6 against 3 and 3. By clusters: 1 + 1 + 1 + 6 against 3 + 3 + 3 + 3.
        faces = [("a", 1, (1,)), ("b", 6, (2,)), ("c", 3, (1,)), ("d", 3, (2,))]
        self.assert_shown(faces, [1, 1, 1, 2], [0, 0, 0, 3])
        faces = [("a", 2, (1, 2)), ("b", 5, (2, 3)), ("c", 0, (1,)), ("d", 6, (2, 3))]
        self.assert_shown(faces, [1, 2, 2, 2, 3], [0, 0, 0, 0, 1])
        self.assert_shown(faces, [1, 1, 1, 2, 3], [2, 2, 2, 1, 1])

    def test_the_first_as_lists_ascend(self):
        faces = [("a", 2, (1, 2)), ("b", 2, (2, 3))]
        self.assert_shown(faces, [2, 2], [0, 0])
        self.assert_shown(faces, [1, 2, 2, 3], [0, 0, 0, 1])
        self.assert_shown(faces, [3, 2, 2, 1], [1, 0, 0, 0])

    def test_a_later_face_may_be_the_least(self):
        self.assert_shown([("a", 3, (1,)), ("b", 2, (1,)), ("c", 2, (1,))], [1, 1], [1, 1])

    def test_none_at_the_begin_between_and_at_the_end(self):
        self.assert_shown([PLAIN], [9, 1], [None, 0])
        self.assert_shown([PLAIN], [1, 9, 1], [0, None, 0])
        self.assert_shown([PLAIN], [1, 9], [0, None])
        self.assert_shown([PLAIN], [9, 8, 1, 9, 9, 1, 8], [None, None, 0, None, None, 0, None])
        self.assertEqual(changes(shown(Case([PLAIN]), [9, 1, 9])), 2)

    def test_none_just_where_a_cluster_has_no_choice(self):
        self.assert_shown([PLAIN, BOLD], [9, 1, 9], [None, 0, None])
        self.assert_shown([PLAIN, BOLD], [1, 900, 2], [None, 0])

    def test_behind_none_the_face_is_free(self):
        faces = [("a", 0, (1, 2)), ("b", 0, (2, 3))]
        self.assert_shown(faces, [3, 9, 2], [1, None, 0])

    def test_only_clusters_without_a_choice(self):
        self.assert_shown([], [1, 2, 900], [None, None])
        self.assert_shown([PLAIN], [9], [None])

    def test_marks_stay_with_their_letter(self):
        self.assert_shown([PLAIN, BOLD], [1, 2, 900, 2, 1], [0, 1, 0, 0])

    def test_against_all_rows_over_short_texts(self):
        for name, faces in trying.SIGHTS.items():
            for text in trying.texts(5):
                with self.subTest(name, text=text):
                    self.assertEqual(shown(Case(faces), text), trying.best_row(faces, text))

    def test_against_all_rows_of_thrown_cases(self):
        numbers = trying.Numbers(5)
        alphabet = [1, 2, 3, 4, 5, 6, 900]
        for _ in range(300):
            faces = numbers.faces(numbers.below(5), alphabet)
            text = numbers.text(numbers.below(8), alphabet)
            with self.subTest(faces=faces, text=text):
                self.assertEqual(shown(Case(faces), text), trying.best_row(faces, text))


class LongTextTest(unittest.TestCase):
    def test_two_hundred_signs_that_eight_faces_have(self):
        faces = [(name, rank, tuple(range(100))) for rank, name in enumerate("abcdefgh")]
        self.assertEqual(shown(Case(faces), list(range(100)) * 2), [0] * 200)

    def test_two_hundred_signs_of_two_faces_in_turn(self):
        faces = [("a", 0, (1,)), ("b", 0, (2,))]
        self.assertEqual(shown(Case(faces), [1, 2] * 100), [0, 1] * 100)
        self.assertEqual(runs(Case(faces), [1, 2] * 100)[-2:], [(198, 199, 0), (199, 200, 1)])

    def test_two_hundred_signs_of_parted_faces(self):
        faces = [(name, 9 - part, tuple(range(part * 90, part * 90 + 100))) for part, name in enumerate("abcdefgh")]
        text = [sign for sign in range(0, 800, 4)]
        row = shown(Case(faces), text)
        self.assertEqual(len(row), 200)
        self.assertEqual(row[:25], [0] * 23 + [1] * 2)
        self.assertEqual(changes(row), 8)
        self.assertEqual(row[-20:], [7] * 3 + [None] * 17)


class RunsTest(unittest.TestCase):
    def test_a_text_without_signs(self):
        self.assertEqual(runs(CASE, []), [])
        self.assertEqual(runs(Case([]), []), [])

    def test_neighbours_alike_are_one_run(self):
        self.assertEqual(runs(CASE, [1, 2, 3]), [(0, 3, 0)])
        self.assertEqual(runs(CASE, [1, 2, 4, 4]), [(0, 2, 0), (2, 4, 2)])

    def test_marks_are_within_the_run_of_their_letter(self):
        self.assertEqual(runs(CASE, [1, 2, 900, 900, 1]), [(0, 1, 0), (1, 4, 1), (4, 5, 0)])

    def test_marks_ahead_of_all_letters_are_within_the_first_run(self):
        self.assertEqual(runs(Case([PLAIN, BOLD]), [900, 900, 2, 900, 1]), [(0, 4, 1), (4, 5, 0)])
        self.assertEqual(runs(CASE, [900, 900, 2, 1]), [(0, 2, 2), (2, 4, 0)])
        self.assertEqual(runs(CASE, [901, 900, 1]), [(0, 2, 2), (2, 3, 0)])
        self.assertEqual(runs(CASE, [999, 1]), [(0, 1, None), (1, 2, 0)])

    def test_none_is_a_run_too(self):
        self.assertEqual(runs(CASE, [9, 8, 1, 9, 900]), [(0, 2, None), (2, 3, 0), (3, 5, None)])
        self.assertEqual(runs(Case([]), [1, 2, 900]), [(0, 3, None)])

    def test_runs_go_through_the_whole_text_and_are_as_many_as_changes_and_one(self):
        for name, faces in trying.SIGHTS.items():
            for text in trying.texts(5):
                with self.subTest(name, text=text):
                    self.assert_runs(Case(faces), text)

    def assert_runs(self, case, text):
        row = shown(case, text)
        told = runs(case, text)
        self.assertEqual(len(told), changes(row) + 1 if text else 0)
        places = [0] + [end for _, end, _ in told]
        self.assertEqual([begin for begin, _, _ in told], places[:-1])
        self.assertEqual(places[-1], len(text))
        for (begin, end), face in zip(trying.spans(text), row):
            self.assertTrue(any(first <= begin and end <= last and face == by for first, last, by in told))


class BadSignTest(unittest.TestCase):
    def test_the_first_place_is_told(self):
        for function in (choices, missing, shown, runs):
            for case in (CASE, Case([])):
                for text, place in (
                    ([-1], 0), ([1000], 0), ([1, 2, 900, 1000, -1], 3), ([1, -1, 5, 1000], 1), ([9, 9, 9, -1], 3)
                ):
                    with self.subTest(function.__name__, text=text):
                        with self.assertRaises(BadSign) as caught:
                            function(case, text)
                        self.assertIs(type(caught.exception), BadSign)
                        self.assertEqual(caught.exception.place, place)


class HandedInTest(unittest.TestCase):
    def test_text_and_case_stay_as_they_were(self):
        case = Case([PLAIN, BOLD, WIDE])
        text = [900, 1, 2, 901, 3, 9]
        for function in (choices, missing, shown, runs):
            with self.subTest(function.__name__):
                function(case, text)
                self.assertEqual(text, [900, 1, 2, 901, 3, 9])
                self.assertEqual(case.faces(), [PLAIN, BOLD, WIDE])

    def test_the_case_stays_behind_a_refusal(self):
        case = Case([PLAIN, BOLD])
        text = [1, 1000]
        for function in (choices, missing, shown, runs):
            with self.subTest(function.__name__):
                with self.assertRaises(BadSign):
                    function(case, text)
                self.assertEqual(text, [1, 1000])
                self.assertEqual(case.faces(), [PLAIN, BOLD])
                self.assertEqual(shown(case, [1]), [0])

    def test_what_is_told_may_be_changed(self):
        text = [3, 3, 9, 1]
        for function in (choices, missing, shown, runs):
            with self.subTest(function.__name__):
                asked = function(CASE, text)
                function(CASE, text).clear()
                function(CASE, text).append(7)
                self.assertEqual(function(CASE, text), asked)

    def test_inner_lists_of_choices_may_be_changed(self):
        text = [3, 3, 9]
        told = choices(CASE, text)
        told[0].append(7)
        told[1].clear()
        told[2].append(0)
        self.assertEqual(told, [[0, 1, 2, 7], [], [0]])
        self.assertEqual(choices(CASE, text), [[0, 1, 2], [0, 1, 2], []])
        self.assertEqual(shown(CASE, text), [0, 0, None])

    def test_the_text_may_be_changed_behind(self):
        text = [1, 4]
        self.assertEqual(shown(CASE, text), [0, 2])
        text[0] = 3
        self.assertEqual(shown(CASE, text), [2, 2])
        self.assertEqual(choices(CASE, text), [[0, 1, 2], [2]])

    def test_two_cases_stand_apart(self):
        text = [2, 4]
        first, second = Case([PLAIN, WIDE]), Case([WIDE, BOLD])
        self.assertEqual(shown(first, text), [0, 1])
        self.assertEqual(shown(second, text), [1, 0])
        self.assertEqual(shown(first, text), [0, 1])
        self.assertEqual(choices(second, text), [[1], [0]])


if __name__ == "__main__":
    unittest.main()
