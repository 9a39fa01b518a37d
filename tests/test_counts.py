import unittest

from slipseen.counts import good_count, missed
from slipseen.schemes import closing
from slipseen.slips import unseen
from tests.support import (
    ARTICLES, BLIND, DAMM, KINDS, LATE, counting, far_missed, latin, made, slow_good_count, slow_missed, summed)

# Bases, states, tables, and the greatest length whose numbers are all tried.
SIZES = ((2, 1, 1, 6), (2, 2, 1, 8), (2, 2, 3, 8), (2, 3, 2, 8), (2, 12, 6, 8), (3, 1, 4, 5), (3, 3, 1, 6),
         (3, 5, 2, 5), (3, 12, 5, 5), (4, 4, 1, 4), (5, 12, 4, 4), (10, 12, 6, 3), (10, 10, 2, 3))


class GoodCount(unittest.TestCase):
    def test_the_empty_number_is_the_one_of_length_0(self):
        for base, states, tables, _ in SIZES:
            self.assertEqual(good_count(made(base, states, tables, 3), 0), 1)

    def test_length_1_counts_the_check_figures_of_the_empty_number(self):
        self.assertEqual(good_count((4, (((0, 1, 0, 0), (1, 1, 1, 1)),)), 1), 3)
        self.assertEqual(good_count((4, (((1, 1, 1, 1), (0, 0, 0, 0)),)), 1), 0)

    def test_against_all_short_numbers(self):
        for base, states, tables, most in SIZES:
            for seed in range(3):
                for scheme in (made(base, states, tables, seed), latin(base, states, tables, seed)):
                    for length in range(most + 1):
                        with self.subTest(scheme=scheme, length=length):
                            self.assertEqual(good_count(scheme, length), slow_good_count(scheme, length))

    def test_a_scheme_that_closes_has_one_good_number_for_each_beginning(self):
        for scheme in (DAMM, ARTICLES, summed(2, (1,), 2), summed(7, (1, 2, 3, 4, 5, 6), 7)):
            self.assertIsNone(closing(scheme))
            for length in range(1, 31):
                self.assertEqual(good_count(scheme, length), scheme[0] ** (length - 1))

    def test_length_30(self):
        self.assertEqual(good_count(BLIND, 30), 2 ** 30)
        self.assertEqual(good_count((10, (((0,) * 10,),) * 6), 30), 10 ** 30)
        self.assertEqual(good_count(counting(10, 3, 11), 30), 10 ** 30)
        self.assertEqual(good_count(counting(10, 3, 11), 29), 0)
        self.assertEqual(good_count((10, (((1,) * 10, (1,) * 10),)), 30), 0)

    def test_lengths_somewhat_beyond(self):
        self.assertEqual(good_count(DAMM, 31), 10 ** 30)
        self.assertEqual(good_count(DAMM, 70), 10 ** 69)
        self.assertEqual(good_count(DAMM, -1), 0)


class Missed(unittest.TestCase):
    def test_known_counts(self):
        # Good are 00 and 11, and each is the other one's twin.
        even = summed(2, (1,), 2)
        self.assertEqual([missed(even, kind, 2) for kind in KINDS], [0, 0, 2, 0, 2])
        # Good are 000, 011, 101 and 110.
        self.assertEqual([missed(even, kind, 3) for kind in KINDS], [0, 4, 4, 2, 6])

    def test_slips_that_are_alike_count_as_often_as_they_are_told(self):
        # Only 0 leads on, so the one good number has as many slips as figures, all of them alike.
        scheme = (2, (((0, 1), (1, 1)),))
        for length in range(31):
            self.assertEqual(missed(scheme, "out", length), length)

    def test_lengths_shorter_than_what_a_kind_touches(self):
        for scheme in (BLIND, DAMM, ARTICLES, made(10, 12, 6, 1)):
            for kind in KINDS:
                self.assertEqual(missed(scheme, kind, 0), 0)
            for kind in ("swap", "twin", "jump"):
                self.assertEqual(missed(scheme, kind, 1), 0)
            self.assertEqual(missed(scheme, "jump", 2), 0)
        self.assertEqual([missed(BLIND, kind, 1) for kind in KINDS], [2, 0, 0, 0, 2])
        self.assertEqual([missed(BLIND, kind, 2) for kind in KINDS], [8, 2, 2, 0, 8])
        self.assertEqual([missed(BLIND, kind, 3) for kind in KINDS], [24, 8, 8, 4, 24])

    def test_against_all_short_numbers(self):
        met = {}
        for base, states, tables, most in SIZES:
            for seed in range(3):
                for scheme in (made(base, states, tables, seed), latin(base, states, tables, seed)):
                    for kind in KINDS:
                        for length in range(most + 1):
                            with self.subTest(scheme=scheme, kind=kind, length=length):
                                count = slow_missed(scheme, kind, length)
                                self.assertEqual(missed(scheme, kind, length), count)
                                met[(kind, count > 0)] = True
        self.assertEqual(len(met), 10)

    def test_length_30_where_all_is_good(self):
        scheme = (10, (((0,) * 10,),) * 6)
        self.assertEqual(missed(scheme, "one", 30), 30 * 9 * 10 ** 30)
        self.assertEqual(missed(scheme, "swap", 30), 29 * 9 * 10 ** 29)
        self.assertEqual(missed(scheme, "twin", 30), 29 * 9 * 10 ** 29)
        self.assertEqual(missed(scheme, "jump", 30), 28 * 9 * 10 ** 29)
        self.assertEqual(missed(scheme, "out", 30), 30 * 10 ** 30)

    def test_length_30_place_by_place(self):
        for size in ((2, 12, 6), (3, 5, 4), (4, 12, 5)):
            for kind in KINDS:
                scheme = made(*size, seed=6)
                with self.subTest(scheme=scheme, kind=kind):
                    self.assertEqual(missed(scheme, kind, 30), far_missed(scheme, kind, 30))

    def test_length_30_of_the_largest_scheme(self):
        scheme = made(10, 12, 6, 1)
        for kind in KINDS:
            self.assertEqual(missed(scheme, kind, 30), far_missed(scheme, kind, 30))

    def test_lengths_somewhat_beyond(self):
        for kind in KINDS:
            self.assertEqual(missed(ARTICLES, kind, -1), 0)
            self.assertEqual(missed(made(3, 4, 2, 1), kind, 45), far_missed(made(3, 4, 2, 1), kind, 45))

    def test_the_same_answer_twice(self):
        for kind in KINDS:
            self.assertEqual(missed(DAMM, kind, 12), missed(DAMM, kind, 12))
            self.assertEqual(good_count(DAMM, 12), good_count(DAMM, 12))


class MissedAndUnseen(unittest.TestCase):
    def assert_agree(self, scheme, kind):
        told = unseen(scheme, kind)
        if told is None:
            self.assertEqual([missed(scheme, kind, length) for length in range(31)], [0] * 31)
        else:
            first = len(told[0])
            self.assertEqual([missed(scheme, kind, length) for length in range(first)], [0] * first)
            self.assertGreater(missed(scheme, kind, first), 0)
        return told is None

    def test_made_schemes(self):
        for base, states, tables, _ in SIZES:
            for seed in range(4):
                for scheme in (made(base, states, tables, seed), latin(base, states, tables, seed)):
                    for kind in KINDS:
                        with self.subTest(scheme=scheme, kind=kind):
                            self.assert_agree(scheme, kind)

    def test_known_schemes(self):
        eleven = summed(10, (1, 2, 3, 4, 5, 6), 11)
        only_empty = (10, (((1,) * 10,) * 2,))
        met = {}
        for scheme in (DAMM, ARTICLES, BLIND, LATE, eleven, only_empty, counting(2, 1, 12), counting(3, 6, 12)):
            for kind in KINDS:
                with self.subTest(scheme=scheme, kind=kind):
                    met[(kind, self.assert_agree(scheme, kind))] = True
        self.assertEqual(len(met), 10)


if __name__ == "__main__":
    unittest.main()
