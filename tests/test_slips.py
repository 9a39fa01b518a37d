import unittest

from slipseen.schemes import good
from slipseen.slips import slips, unseen
from tests.support import (
    ARTICLES, BLIND, DAMM, KINDS, all_numbers, latin, made, made_figures, shortest_unseen, slow_slips, slow_state,
    summed)

TWO = BLIND
THREE = (3, (((0, 0, 0),),))


class SlipsOfANumber(unittest.TestCase):
    def test_one(self):
        self.assertEqual(slips(THREE, "one", [1, 2]), [[0, 2], [2, 2], [1, 0], [1, 1]])
        self.assertEqual(slips(TWO, "one", [0]), [[1]])

    def test_swap(self):
        self.assertEqual(slips(THREE, "swap", [0, 1, 1, 2]), [[1, 0, 1, 2], [0, 1, 2, 1]])
        self.assertEqual(slips(THREE, "swap", [1, 1, 1]), [])

    def test_twin(self):
        self.assertEqual(slips(THREE, "twin", [1, 1, 1, 2]), [
            [0, 0, 1, 2], [2, 2, 1, 2], [1, 0, 0, 2], [1, 2, 2, 2]])
        self.assertEqual(slips(THREE, "twin", [1, 2, 1]), [])

    def test_jump(self):
        self.assertEqual(slips(THREE, "jump", [0, 2, 1, 2, 0]), [[1, 2, 0, 2, 0], [0, 2, 0, 2, 1]])
        self.assertEqual(slips(THREE, "jump", [0, 0, 1]), [[1, 0, 0]])
        self.assertEqual(slips(THREE, "jump", [1, 0, 1]), [])

    def test_out(self):
        self.assertEqual(slips(THREE, "out", [0, 1, 2]), [[1, 2], [0, 2], [0, 1]])
        self.assertEqual(slips(THREE, "out", [2]), [[]])

    def test_alike_ones_are_told_twice(self):
        self.assertEqual(slips(THREE, "out", [1, 1, 2]), [[1, 2], [1, 2], [1, 1]])
        self.assertEqual(slips(THREE, "out", [0, 0, 0]), [[0, 0], [0, 0], [0, 0]])
        self.assertEqual(slips(TWO, "jump", [0, 1, 1, 0]), [[1, 1, 0, 0], [0, 0, 1, 1]])

    def test_numbers_shorter_than_what_a_kind_touches(self):
        for kind in KINDS:
            self.assertEqual(slips(DAMM, kind, []), [])
        for kind in ("swap", "twin", "jump"):
            self.assertEqual(slips(DAMM, kind, [4]), [])
        self.assertEqual(slips(DAMM, "jump", [4, 5]), [])

    def test_the_base_is_the_schemes(self):
        self.assertEqual(slips(DAMM, "one", [9]), [[figure] for figure in range(9)])
        self.assertEqual(slips(DAMM, "twin", [4, 4]), [[figure, figure] for figure in range(10) if figure != 4])

    def test_slips_are_told_whether_good_or_not(self):
        self.assertEqual(slips(DAMM, "swap", [5, 7]), [[7, 5]])
        self.assertEqual(slips(DAMM, "out", [0, 5]), [[5], [0]])

    def test_all_short_numbers(self):
        for base, most in ((2, 6), (3, 5), (4, 4)):
            scheme = made(base, 3, 2, 1)
            for length in range(most + 1):
                for figures in all_numbers(base, length):
                    for kind in KINDS:
                        self.assertEqual(slips(scheme, kind, figures), slow_slips(base, kind, figures))

    def test_long_numbers(self):
        for base in (2, 7, 10):
            scheme = made(base, 12, 6, 2)
            for length in (59, 60, 70):
                figures = made_figures(base, length, 4)
                for kind in KINDS:
                    self.assertEqual(slips(scheme, kind, figures), slow_slips(base, kind, figures))


class Unseen(unittest.TestCase):
    def assert_missed(self, scheme, kind, told):
        self.assertIsInstance(told, tuple)
        self.assertEqual([list, list], [value.__class__ for value in told])
        number, written = told
        self.assertEqual(slow_state(scheme, number), 0)
        self.assertEqual(slow_state(scheme, written), 0)
        self.assertIn(written, slow_slips(scheme[0], kind, number))

    def assert_length(self, scheme, kind, length):
        told = unseen(scheme, kind)
        self.assert_missed(scheme, kind, told)
        self.assertEqual(len(told[0]), length)

    def test_damm(self):
        self.assertIsNone(unseen(DAMM, "one"))
        self.assertIsNone(unseen(DAMM, "swap"))
        self.assert_length(DAMM, "twin", 3)
        self.assert_length(DAMM, "jump", 3)
        self.assertEqual(unseen(DAMM, "out"), ([0], []))

    def test_article_numbers(self):
        self.assertIsNone(unseen(ARTICLES, "one"))
        self.assert_length(ARTICLES, "swap", 3)
        self.assert_length(ARTICLES, "twin", 2)
        self.assert_length(ARTICLES, "jump", 3)
        self.assertEqual(unseen(ARTICLES, "out"), ([0], []))

    def test_weights_by_eleven(self):
        scheme = summed(10, (1, 2, 3, 4, 5, 6), 11)
        for kind in ("one", "swap", "jump"):
            self.assertIsNone(unseen(scheme, kind))
        # Just the weights 5 and 6 make 11, so the twins stand at places 4 and 5.
        self.assert_length(scheme, "twin", 6)

    def test_a_scheme_of_one_state_sees_nothing(self):
        for base in (2, 10):
            for tables in (1, 6):
                scheme = (base, (((0,) * base,),) * tables)
                for kind, length in (("one", 1), ("swap", 2), ("twin", 2), ("jump", 3), ("out", 1)):
                    self.assert_length(scheme, kind, length)

    def test_a_scheme_by_which_only_the_empty_number_is_good_sees_all(self):
        scheme = (10, (((1,) * 10, (1,) * 10),))
        for kind in KINDS:
            self.assertIsNone(unseen(scheme, kind))

    def test_a_scheme_that_sees_out(self):
        # Good are just the numbers whose length is even.
        scheme = (10, (((1,) * 10, (0,) * 10),))
        self.assertIsNone(unseen(scheme, "out"))
        for kind, length in (("one", 2), ("swap", 2), ("twin", 2), ("jump", 4)):
            self.assert_length(scheme, kind, length)

    def test_what_is_behind_a_left_out_figure_is_read_at_another_turn(self):
        # Good are just rows of [0, 1], and [1, 0, 1] as the last one; state 4 is never left.
        first = ((3, 1), (4, 4), (4, 0), (4, 4), (4, 4))
        second = ((4, 4), (2, 4), (4, 4), (4, 0), (4, 4))
        self.assertEqual(unseen((2, (first, second)), "out"), ([1, 0, 1], [0, 1]))

    def test_a_number_far_longer_than_the_slip(self):
        # State 0 is come to again only by way of all the others, one place after the other.
        scheme = (2, ((((1, 1),) + tuple(((state + 1) % 12,) * 2 for state in range(1, 12))),))
        for kind in ("one", "swap", "twin", "jump"):
            self.assert_length(scheme, kind, 12)
        self.assertIsNone(unseen(scheme, "out"))

    def test_a_number_longer_than_60(self):
        # The figures are not told apart but at turn 5, where 0 leads back to state 1 and 1 leads on.
        def row(turn, state):
            if turn != 5:
                return (max(state, 1),) * 2
            return (1, (state + 1) % 12) if state else (1, 1)
        scheme = (2, tuple(tuple(row(turn, state) for state in range(12)) for turn in range(6)))
        told = unseen(scheme, "one")
        self.assert_missed(scheme, "one", told)
        self.assertEqual(len(told[0]), 66)
        self.assertIs(good(scheme, told[0]), True)
        self.assertEqual(slips(scheme, "one", told[0]).count(told[1]), 1)

    def test_against_a_search_through_all_short_numbers(self):
        met = {}
        for base, states, tables, most in ((2, 1, 2, 4), (2, 2, 1, 7), (2, 2, 3, 7), (2, 4, 2, 7), (2, 12, 6, 7),
                                           (3, 3, 1, 5), (3, 5, 2, 5), (3, 12, 6, 5), (4, 4, 1, 4), (5, 12, 4, 4)):
            for seed in range(8):
                for scheme in (made(base, states, tables, seed), latin(base, states, tables, seed)):
                    for kind in KINDS:
                        with self.subTest(scheme=scheme, kind=kind):
                            self.assert_as_searched(scheme, kind, most, met)
        for kind in KINDS:
            self.assertIn((kind, True), met)
            self.assertIn((kind, False), met)

    def assert_as_searched(self, scheme, kind, most, met):
        told = unseen(scheme, kind)
        length = shortest_unseen(scheme, kind, most)
        if told is None:
            self.assertIsNone(length)
        else:
            self.assert_missed(scheme, kind, told)
            self.assertEqual(length, len(told[0]) if len(told[0]) <= most else None)
        met[(kind, told is None)] = True


class LeftAlone(unittest.TestCase):
    def test_the_number_is_as_it_was(self):
        for kind in KINDS:
            figures = [1, 1, 2, 0, 1]
            told = slips(THREE, kind, figures)
            self.assertEqual(figures, [1, 1, 2, 0, 1])
            kept = [list(slip) for slip in told]
            figures.clear()
            self.assertEqual(told, kept)

    def test_no_two_told_lists_are_one(self):
        for kind in KINDS:
            for figures in ([], [1], [1, 1, 1, 1], [0, 1, 2, 0, 0]):
                told = slips(THREE, kind, figures) + slips(THREE, kind, figures) + [figures]
                self.assertEqual(len({id(slip) for slip in told}), len(told))

    def test_a_told_list_that_is_changed_changes_no_later_answer(self):
        for kind in KINDS:
            told = slips(THREE, kind, [1, 1, 2, 0])
            kept = [list(slip) for slip in told]
            for slip in told:
                slip.append(77)
            told.clear()
            self.assertEqual(slips(THREE, kind, [1, 1, 2, 0]), kept)

    def test_one_told_slip_that_is_changed_leaves_the_others(self):
        told = slips(THREE, "out", [1, 1, 1])
        told[0].append(77)
        self.assertEqual(told[1:], [[1, 1], [1, 1]])

    def test_unseen_tells_the_askers_own_lists(self):
        for scheme in (TWO, THREE, ARTICLES):
            for kind in KINDS:
                told = unseen(scheme, kind)
                if told is not None:
                    kept = (list(told[0]), list(told[1]))
                    told[0].append(77)
                    self.assertEqual(told[1], kept[1])
                    told[1].insert(0, 77)
                    self.assertEqual(unseen(scheme, kind), kept)


if __name__ == "__main__":
    unittest.main()
