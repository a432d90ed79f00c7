"""Point 3, and point 1 as far as it speaks of a text."""

import itertools
import unittest

import trying
from fontfall import clusters
from fontfall.clusters import bounds, parted
from fontfall.errors import BadSign


class InterfaceTest(unittest.TestCase):
    def test_parted_is_defined_in_this_file(self):
        self.assertEqual(clusters.parted.__module__, "fontfall.clusters")

    def test_the_text_may_be_handed_in_by_name(self):
        self.assertEqual(parted(text=[1]), [(1,)])

    def test_a_list_of_tuples_is_told(self):
        told = parted([1, 800, 2])
        self.assertIs(type(told), list)
        self.assertEqual([type(cluster) for cluster in told], [tuple, tuple])


class PartedTest(unittest.TestCase):
    def test_no_signs(self):
        self.assertEqual(parted([]), [])

    def test_letters(self):
        self.assertEqual(parted([5]), [(5,)])
        self.assertEqual(parted([5, 6, 5]), [(5,), (6,), (5,)])

    def test_a_letter_that_stands_twice_is_two_clusters(self):
        self.assertEqual(parted([5, 5]), [(5,), (5,)])

    def test_marks_behind_letters(self):
        self.assertEqual(parted([5, 801]), [(5, 801)])
        self.assertEqual(parted([5, 801, 802, 6, 803]), [(5, 801, 802), (6, 803)])
        self.assertEqual(parted([5, 6, 801]), [(5,), (6, 801)])
        self.assertEqual(parted([5, 801, 6]), [(5, 801), (6,)])

    def test_marks_stay_in_order_and_as_many_as_they_are(self):
        self.assertEqual(parted([5, 803, 801, 801]), [(5, 803, 801, 801)])

    def test_marks_ahead_of_all_letters(self):
        self.assertEqual(parted([801, 5]), [(801,), (5,)])
        self.assertEqual(parted([801, 802, 801, 5, 803]), [(801, 802, 801), (5, 803)])

    def test_marks_alone(self):
        self.assertEqual(parted([801]), [(801,)])
        self.assertEqual(parted([802, 801, 802]), [(802, 801, 802)])

    def test_signs_at_the_bounds(self):
        self.assertEqual(parted([0, 799, 800, 999]), [(0,), (799, 800, 999)])
        self.assertEqual(parted([999, 800, 799, 0]), [(999, 800), (799,), (0,)])
        self.assertEqual(parted([800, 799]), [(800,), (799,)])
        self.assertEqual(parted([0]), [(0,)])

    def test_every_short_text(self):
        for length in range(6):
            for text in itertools.product((0, 799, 800, 999), repeat=length):
                self.assert_clusters(list(text), parted(list(text)))

    def assert_clusters(self, text, told):
        self.assertEqual([sign for cluster in told for sign in cluster], text)
        for number, cluster in enumerate(told):
            self.assertTrue(cluster)
            self.assertTrue(cluster[0] < 800 or number == 0)
            self.assertTrue(all(sign >= 800 for sign in cluster[1:]))


class BoundsTest(unittest.TestCase):
    def test_the_places_of_each_cluster(self):
        self.assertEqual(bounds([]), [])
        self.assertEqual(bounds([801, 802, 5, 6, 803]), [(0, 2), (2, 3), (3, 5)])

    def test_every_short_text(self):
        for text in trying.texts(6, (0, 799, 800, 999)):
            self.assertEqual(bounds(text), trying.spans(text))
            self.assertEqual([tuple(text[begin:end]) for begin, end in bounds(text)], parted(text))


class BadSignTest(unittest.TestCase):
    def assert_refused(self, text, place):
        with self.assertRaises(BadSign) as caught:
            parted(text)
        self.assertEqual(caught.exception.place, place)

    def test_a_number_below_0(self):
        self.assert_refused([-1], 0)
        self.assert_refused([5, 801, -1, 6], 2)
        self.assert_refused([5, -700], 1)

    def test_a_number_above_999(self):
        self.assert_refused([1000], 0)
        self.assert_refused([5, 801, 1000], 2)
        self.assert_refused([801, 5, 6, 12345, 6], 3)

    def test_the_first_of_two_is_told(self):
        self.assert_refused([5, 1000, 6, -1], 1)
        self.assert_refused([5, -1, 6, 1000], 1)
        self.assert_refused([5, 6, -1, -1], 2)
        self.assert_refused([1000, 1000], 0)

    def test_a_place_is_one_of_signs_and_not_of_clusters(self):
        self.assert_refused([5, 801, 802, 6, 803, 1000], 5)


class HandedInTest(unittest.TestCase):
    def test_the_text_stays_as_it_was(self):
        text = [801, 5, 802, 6]
        parted(text)
        self.assertEqual(text, [801, 5, 802, 6])

    def test_a_refused_text_stays_as_it_was(self):
        text = [5, 1000, -1]
        with self.assertRaises(BadSign):
            parted(text)
        self.assertEqual(text, [5, 1000, -1])

    def test_what_is_told_may_be_changed(self):
        text = [801, 5, 802]
        told = parted(text)
        told.append((7,))
        told[0] = ()
        self.assertEqual(parted(text), [(801,), (5, 802)])
        parted(text).clear()
        self.assertEqual(parted(text), [(801,), (5, 802)])
        self.assertEqual(text, [801, 5, 802])

    def test_the_text_may_be_changed_behind(self):
        text = [5, 801]
        told = parted(text)
        text.append(6)
        self.assertEqual(told, [(5, 801)])
        self.assertEqual(parted(text), [(5, 801), (6,)])
        text[0] = 1000
        with self.assertRaises(BadSign):
            parted(text)


if __name__ == "__main__":
    unittest.main()
