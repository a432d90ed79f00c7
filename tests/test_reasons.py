"""Points 6 and 7, and points 1 and 3 as far as they speak of reasons."""

import inspect
import itertools
import unittest

import trying
from fontfall import reasons
from fontfall.errors import BadSign
from fontfall.faces import Case
from fontfall.reasons import holds, reason
from fontfall.showing import changes, shown

# 1 is had by the first face, 2 by both, 3 by the second, 9 by none.
FACES = [("a", 0, (1, 2)), ("b", 0, (2, 3))]
CASE = Case(FACES)


class InterfaceTest(unittest.TestCase):
    def test_the_functions_are_defined_in_this_file_with_their_arguments(self):
        for name, arguments in {"reason": "case text", "holds": "case text stretches"}.items():
            with self.subTest(name):
                function = getattr(reasons, name)
                self.assertEqual(function.__module__, "fontfall.reasons")
                self.assertEqual(list(inspect.signature(function).parameters), arguments.split())

    def test_kinds_of_values(self):
        told = reason(CASE, [1, 3, 1])
        self.assertIs(type(told), list)
        for stretch in told:
            self.assertIs(type(stretch), tuple)
            self.assertEqual([type(number) for number in stretch], [int, int])
        self.assertIs(holds(CASE, [1, 3], [(0, 1)]), True)
        self.assertIs(holds(CASE, [1, 2], [(0, 1)]), False)
        self.assertIs(holds(CASE, [9, 9], [(0, 1)]), False)
        self.assertIs(holds(CASE, [], []), True)


class ReasonTest(unittest.TestCase):
    def assert_reason(self, faces, text):
        """As many as changes, and they are such stretches, by the words of the document and by holds."""
        case = Case(faces)
        told = reason(case, text)
        self.assertEqual(len(told), changes(shown(case, text)))
        last_ahead = 0
        for first, last in told:
            self.assertTrue(last_ahead <= first <= last < len(trying.spans(text)))
            self.assertTrue(trying.is_torn(faces, text, first, last))
            last_ahead = last
        self.assertIs(holds(case, text, told), True)

    def test_no_changes(self):
        for text in ([], [1], [1, 2, 1], [9], [9, 9, 900], [900]):
            with self.subTest(text):
                self.assertEqual(reason(CASE, text), [])

    def test_the_only_reason(self):
        self.assertEqual(reason(CASE, [1, 3]), [(0, 1)])
        self.assertEqual(reason(CASE, [1, 3, 1]), [(0, 1), (1, 2)])
        self.assertEqual(reason(CASE, [1, 2, 2, 3]), [(0, 3)])

    def test_clusters_without_a_choice(self):
        self.assertEqual(reason(CASE, [9, 1]), [(0, 1)])
        self.assertEqual(reason(CASE, [1, 9]), [(0, 1)])
        self.assertEqual(reason(CASE, [1, 9, 1]), [(0, 1), (1, 2)])
        self.assertEqual(reason(Case([]), [1, 2, 3]), [])

    def test_clusters_are_counted_and_not_signs(self):
        case = Case([("a", 0, (1, 900)), ("b", 0, (3, 900))])
        self.assertEqual(reason(case, [1, 900, 900, 3, 900]), [(0, 1)])

    def test_faces_that_each_two_neighbours_share(self):
        faces = [("a", 0, (1, 2)), ("b", 0, (2, 3)), ("c", 0, (1, 3))]
        self.assertEqual(reason(Case(faces), [1, 2, 3]), [(0, 2)])

    def test_over_short_texts(self):
        for name, faces in trying.SIGHTS.items():
            for text in trying.texts(4):
                with self.subTest(name, text=text):
                    self.assert_reason(faces, text)

    def test_of_thrown_cases(self):
        numbers = trying.Numbers(7)
        alphabet = [1, 2, 3, 4, 5, 6, 900, 901]
        for _ in range(300):
            faces = numbers.faces(numbers.below(9), alphabet)
            text = numbers.text(numbers.below(30), alphabet)
            with self.subTest(faces=faces, text=text):
                self.assert_reason(faces, text)

    def test_two_hundred_signs(self):
        self.assert_reason(FACES, [1, 3] * 100)
        self.assert_reason(FACES, [2] * 199 + [1])
        self.assert_reason(FACES, [2] * 100 + [9] * 100)
        alphabet = list(range(95)) + list(range(900, 905))
        numbers = trying.Numbers(8)
        self.assert_reason(numbers.faces(8, alphabet), numbers.text(200, alphabet))


class HoldsTest(unittest.TestCase):
    def assert_holds(self, text, stretches):
        self.assertIs(holds(CASE, text, stretches), True)

    def assert_holds_not(self, text, stretches):
        self.assertIs(holds(CASE, text, stretches), False)

    def test_none_are_such_stretches(self):
        for text in ([], [1], [1, 3], [9]):
            with self.subTest(text):
                self.assert_holds(text, [])

    def test_fewer_than_changes_are_such_stretches(self):
        self.assert_holds([1, 3, 1, 3], [(0, 1)])
        self.assert_holds([1, 3, 1, 3], [(2, 3)])
        self.assert_holds([1, 3, 1, 3], [(0, 1), (2, 3)])
        self.assert_holds([1, 3, 1, 3], [(0, 3)])
        self.assert_holds([2, 1, 2, 3, 2], [(0, 4)])
        self.assert_holds([2, 1, 2, 3, 2], [(1, 3)])

    def test_two_that_share_just_one_cluster(self):
        self.assert_holds([1, 3, 1], [(0, 1), (1, 2)])
        self.assert_holds([1, 2, 3, 2, 1], [(0, 2), (2, 4)])

    def test_neighbours_in_common(self):
        self.assert_holds_not([1, 3, 1], [(0, 2), (1, 2)])
        self.assert_holds_not([1, 3, 1], [(0, 1), (0, 2)])
        self.assert_holds_not([1, 3, 1], [(0, 1), (0, 1)])
        self.assert_holds_not([1, 3, 1, 3], [(0, 2), (1, 3)])

    def test_not_in_order(self):
        self.assert_holds_not([1, 3, 1], [(1, 2), (0, 1)])
        self.assert_holds_not([1, 3, 1, 3], [(2, 3), (0, 1)])

    def test_turned_about(self):
        self.assert_holds_not([1, 3], [(1, 0)])
        self.assert_holds_not([1, 3, 1], [(2, 0)])
        self.assert_holds_not([1, 3, 1], [(0, 1), (2, 1)])

    def test_beyond_the_text(self):
        self.assert_holds_not([1, 3], [(0, 2)])
        self.assert_holds_not([1, 3], [(0, 1), (1, 2)])
        self.assert_holds_not([1, 3], [(2, 2)])
        self.assert_holds_not([1, 3], [(5, 6)])
        self.assert_holds_not([], [(0, 0)])
        self.assert_holds_not([1, 900, 900, 1], [(0, 2)])

    def test_below_0(self):
        self.assert_holds_not([1, 3], [(-1, 1)])
        self.assert_holds_not([1, 3], [(-2, -1)])
        self.assert_holds_not([1, 3], [(-1, 0)])
        self.assert_holds_not([1, 3, 1, 3], [(0, 1), (-2, 3)])

    def test_not_torn(self):
        self.assert_holds_not([1, 2, 1], [(0, 2)])
        self.assert_holds_not([1, 2, 3], [(0, 1)])
        self.assert_holds_not([1, 2, 3], [(1, 2)])
        self.assert_holds_not([1, 3, 2, 3], [(0, 1), (1, 3)])
        self.assert_holds_not([1, 2, 3, 1], [(0, 1), (2, 3)])

    def test_one_cluster_is_never_torn(self):
        for text in ([1], [2], [9], [900]):
            with self.subTest(text):
                self.assert_holds_not(text, [(0, 0)])
        self.assert_holds_not([1, 3], [(0, 1), (1, 1)])

    def test_clusters_without_a_choice(self):
        self.assert_holds([1, 9], [(0, 1)])
        self.assert_holds([9, 1], [(0, 1)])
        self.assert_holds([9, 9, 1, 9], [(0, 2), (2, 3)])
        self.assert_holds([2, 9, 2], [(0, 2)])
        self.assert_holds_not([9, 9], [(0, 1)])
        self.assert_holds_not([9, 8, 1], [(0, 1), (1, 2)])

    def test_a_cluster_without_a_choice_whose_signs_are_had(self):
        case = Case([("a", 0, (1, 2)), ("b", 0, (2, 900))])
        self.assertIs(holds(case, [1, 900, 2], [(0, 1)]), True)
        self.assertIs(holds(case, [1, 900, 1, 900], [(0, 1)]), False)

    def test_no_faces(self):
        self.assertIs(holds(Case([]), [1, 2], []), True)
        self.assertIs(holds(Case([]), [1, 2], [(0, 1)]), False)

    def test_all_lists_of_two_stretches_against_the_words_of_the_document(self):
        pairs = [(first, last) for first in range(-1, 5) for last in range(-1, 5)]
        for text in ([1, 2, 3, 1], [1, 9, 3, 2], [9, 9, 1, 3], [1, 3, 900, 1, 2]):
            many = len(trying.spans(text))
            good = {
                (first, last) for first, last in pairs
                if 0 <= first <= last < many and trying.is_torn(FACES, text, first, last)
            }
            for one, other in itertools.product(pairs, repeat=2):
                with self.subTest(text=text, one=one, other=other):
                    expected = one in good and other in good and one[1] <= other[0]
                    self.assertIs(holds(CASE, text, [one, other]), expected)
            for one in pairs:
                self.assertIs(holds(CASE, text, [one]), one in good)


class BadSignTest(unittest.TestCase):
    def test_the_first_place_is_told(self):
        for case in (CASE, Case([])):
            for text, place in (([-1], 0), ([1, 900, 1000, -1], 2), ([1, 3, -5, 1000], 2)):
                with self.subTest(text):
                    with self.assertRaises(BadSign) as caught:
                        reason(case, text)
                    self.assertEqual(caught.exception.place, place)
                    for stretches in ([], [(0, 1)], [(-1, 9)]):
                        with self.assertRaises(BadSign) as caught:
                            holds(case, text, stretches)
                        self.assertEqual(caught.exception.place, place)


class HandedInTest(unittest.TestCase):
    def test_what_is_handed_in_stays_as_it_was(self):
        case = Case(FACES)
        text = [1, 3, 900, 2]
        stretches = [(0, 1)]
        reason(case, text)
        holds(case, text, stretches)
        self.assertEqual((case.faces(), text, stretches), (FACES, [1, 3, 900, 2], [(0, 1)]))

    def test_what_is_told_may_be_changed(self):
        told = reason(CASE, [1, 3, 1])
        told.append((5, 6))
        told[0] = (7, 7)
        self.assertEqual(reason(CASE, [1, 3, 1]), [(0, 1), (1, 2)])

    def test_handed_in_lists_may_be_changed_behind(self):
        text, stretches = [1, 3], [(0, 1)]
        self.assertIs(holds(CASE, text, stretches), True)
        text[1] = 1
        self.assertIs(holds(CASE, text, stretches), False)
        self.assertEqual(reason(CASE, text), [])
        stretches.clear()
        self.assertIs(holds(CASE, text, stretches), True)


if __name__ == "__main__":
    unittest.main()
