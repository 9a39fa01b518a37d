import unittest

from slipseen.schemes import checks, closing, good, state_after
from tests.support import (
    ARTICLES, BLIND, DAMM, LATE, all_numbers, latin, made, made_figures, shortest_open, slow_checks, slow_state,
    summed)

SIZES = ((2, 1, 1), (2, 2, 3), (2, 12, 6), (3, 4, 1), (3, 5, 2), (5, 1, 6), (7, 3, 4), (10, 12, 1), (10, 12, 6),
         (10, 10, 5))


class Reading(unittest.TestCase):
    def test_the_empty_number_is_good(self):
        for size in SIZES:
            scheme = made(*size, seed=1)
            self.assertEqual(state_after(scheme, []), 0)
            self.assertIs(good(scheme, []), True)

    def test_known_numbers(self):
        self.assertEqual(state_after(DAMM, [5, 7, 2]), 4)
        self.assertIs(good(DAMM, [5, 7, 2]), False)
        self.assertIs(good(DAMM, [5, 7, 2, 4]), True)
        article = [4, 0, 0, 6, 3, 8, 1, 3, 3, 3, 9, 3, 1]
        self.assertIs(good(ARTICLES, article), True)
        self.assertIs(good(ARTICLES, article[:-1] + [2]), False)

    def test_the_reading_begins_in_state_0_at_place_0_with_the_first_table(self):
        scheme = (2, (((1, 2), (0, 0), (0, 0)), ((0, 0), (2, 0), (0, 1))))
        self.assertEqual(state_after(scheme, [0]), 1)
        self.assertEqual(state_after(scheme, [1]), 2)
        self.assertEqual(state_after(scheme, [0, 0]), 2)
        self.assertEqual(state_after(scheme, [1, 1]), 1)

    def test_the_turns_go_round(self):
        scheme = summed(10, (1, 2, 3, 4, 5, 6), 12)
        for place in range(60):
            figures = [0] * place + [1]
            self.assertEqual(state_after(scheme, figures), place % 6 + 1)

    def test_numbers_of_every_length_up_to_60(self):
        for size in SIZES:
            for length in range(61):
                scheme = made(*size, seed=length)
                figures = made_figures(size[0], length, 5)
                with self.subTest(size=size, length=length):
                    state = slow_state(scheme, figures)
                    self.assertEqual(state_after(scheme, figures), state)
                    self.assertIs(good(scheme, figures), state == 0)

    def test_numbers_somewhat_beyond_60_are_read(self):
        figures = made_figures(10, 200, 3)
        self.assertEqual(state_after(DAMM, figures), slow_state(DAMM, figures))


class CheckFigures(unittest.TestCase):
    def test_known_numbers(self):
        self.assertEqual(checks(DAMM, [5, 7, 2]), [4])
        self.assertEqual(checks(DAMM, []), [0])
        self.assertEqual(checks(ARTICLES, [4, 0, 0, 6, 3, 8, 1, 3, 3, 3, 9, 3]), [1])

    def test_none_one_and_all_rising(self):
        scheme = (3, (((1, 0, 2), (1, 2, 1), (0, 0, 0)),))
        self.assertEqual(checks(scheme, []), [1])
        self.assertEqual(checks(scheme, [0]), [])
        self.assertEqual(checks(scheme, [2]), [0, 1, 2])

    def test_the_check_figure_is_read_by_the_table_of_its_own_turn(self):
        scheme = summed(10, (1, 3, 7), 10)
        for length in range(1, 8):
            figures = [1] + [0] * (length - 1)
            self.assertEqual(checks(scheme, figures), slow_checks(scheme, figures))
            self.assertEqual(checks(scheme, figures), [{0: 9, 1: 3, 2: 7}[length % 3]])

    def test_against_trying_each_figure(self):
        for size in SIZES:
            for length in (0, 1, 2, 5, 6, 7, 13, 59, 60):
                scheme = made(*size, seed=length + 3)
                figures = made_figures(size[0], length, 8)
                with self.subTest(size=size, length=length):
                    self.assertEqual(checks(scheme, figures), slow_checks(scheme, figures))


class Closing(unittest.TestCase):
    def test_schemes_that_close(self):
        for scheme in (DAMM, ARTICLES, summed(2, (1,), 2), summed(7, (1, 2, 3, 4, 5, 6), 7)):
            self.assertIsNone(closing(scheme))

    def test_the_empty_number_may_be_the_one(self):
        self.assertEqual(closing(BLIND), [])
        self.assertEqual(closing((10, (((0,) * 10,),) * 6)), [])
        self.assertEqual(closing((2, (((1, 1), (0, 1)),))), [])

    def test_none_and_more_than_one_both_count(self):
        none = (2, (((0, 1), (1, 1)),))
        more = (2, (((0, 1), (0, 0)),))
        self.assertEqual(closing(none), [1])
        self.assertEqual(closing(more), [1])

    def test_a_state_that_is_never_come_to_does_not_count(self):
        self.assertIsNone(closing((2, (((0, 1), (1, 0), (2, 2)),))))

    def test_a_late_turn_counts(self):
        closed = ((0, 1), (1, 0))
        number = closing((2, (closed,) * 5 + (((0, 1), (1, 1)),)))
        self.assertEqual(len(number), 5)
        self.assertEqual(checks((2, (closed,) * 5 + (((0, 1), (1, 1)),)), number), [])

    def test_a_number_longer_than_60_is_told_and_read(self):
        number = closing(LATE)
        self.assertEqual(len(number), 65)
        self.assertEqual(checks(LATE, number), [0, 1])
        self.assertEqual(slow_checks(LATE, number), [0, 1])

    def assert_closing(self, scheme, most):
        number = closing(scheme)
        length = shortest_open(scheme, most)
        if number is None:
            self.assertIsNone(length)
            return None
        self.assertIsInstance(number, list)
        self.assertNotEqual(len(slow_checks(scheme, number)), 1)
        if len(number) <= most:
            self.assertEqual(len(number), length)
        else:
            self.assertIsNone(length)
        return len(number)

    def test_against_a_search_through_all_short_numbers(self):
        met = {}
        for base, states, tables, most in ((2, 1, 1, 3), (2, 2, 1, 6), (2, 2, 2, 7), (2, 2, 3, 8), (2, 3, 2, 8),
                                           (3, 3, 1, 5), (3, 3, 2, 6), (3, 4, 2, 6), (4, 4, 1, 5)):
            for seed in range(25):
                for scheme in (made(base, states, tables, seed), latin(base, states, tables, seed)):
                    with self.subTest(scheme=scheme):
                        met[self.assert_closing(scheme, most)] = True
        self.assertIn(None, met)
        self.assertIn(0, met)

    def test_one_spoiled_place_in_a_scheme_that_closes(self):
        met = {}
        for tables in (1, 2, 3, 5):
            weights = tuple(weight % 2 + 1 for weight in range(tables))
            whole = summed(3, weights, 3)[1]
            for turn in range(tables):
                for state in range(3):
                    rows = list(whole[turn])
                    rows[state] = (rows[state][0],) + ((rows[state][1] + 1) % 3,) + rows[state][2:]
                    scheme = (3, whole[:turn] + (tuple(rows),) + whole[turn + 1:])
                    with self.subTest(scheme=scheme):
                        met[self.assert_closing(scheme, 6)] = True
        self.assertEqual(set(met), {None, 1, 2, 3, 4, 5})


class LeftAlone(unittest.TestCase):
    def test_the_number_is_as_it_was(self):
        for ask in (state_after, good, checks):
            figures = [5, 7, 2]
            ask(DAMM, figures)
            self.assertEqual(figures, [5, 7, 2])

    def test_a_number_that_changes_later_changes_no_answer(self):
        figures = [5, 7, 2]
        told = checks(DAMM, figures)
        figures.append(9)
        self.assertEqual(told, [4])
        self.assertEqual(checks(DAMM, [5, 7, 2]), [4])

    def test_told_lists_are_the_askers_own(self):
        told = checks(DAMM, [5, 7, 2])
        told.append(77)
        self.assertEqual(checks(DAMM, [5, 7, 2]), [4])
        for scheme in (BLIND, LATE):
            number = closing(scheme)
            kept = list(number)
            number.append(77)
            self.assertEqual(closing(scheme), kept)
            self.assertIsNot(closing(scheme), closing(scheme))

    def test_all_short_numbers_twice(self):
        for figures in all_numbers(3, 4):
            scheme = made(3, 5, 2, 9)
            first = (state_after(scheme, figures), good(scheme, figures), checks(scheme, figures))
            self.assertEqual((state_after(scheme, figures), good(scheme, figures), checks(scheme, figures)), first)


if __name__ == "__main__":
    unittest.main()
