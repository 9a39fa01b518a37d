import unittest

from slipseen.making import both, parted, weighted
from slipseen.notes import read, shown
from slipseen.schemes import good, state_after
from tests.support import (
    ARTICLES, BLIND, DAMM, all_numbers, counting, is_of_tuples, latin, made, made_figures, renumbered,
    shortest_parting, slow_state)


class Weighted(unittest.TestCase):
    def test_written_out(self):
        self.assertEqual(weighted(3, [1, 2], 3), (3, (
            ((0, 1, 2), (1, 2, 0), (2, 0, 1)),
            ((0, 2, 1), (1, 0, 2), (2, 1, 0)))))
        self.assertEqual(weighted(2, [3], 4), (2, (((0, 3), (1, 0), (2, 1), (3, 2)),)))
        self.assertEqual(weighted(10, [1, 3], 10), ARTICLES)

    def test_modulus_1(self):
        self.assertEqual(weighted(2, [0], 1), BLIND)
        self.assertEqual(weighted(10, [0] * 6, 1), (10, (((0,) * 10,),) * 6))

    def test_weight_0_leaves_the_state(self):
        self.assertEqual(weighted(3, [0], 2), (3, (((0, 0, 0), (1, 1, 1)),)))

    def test_entry_by_entry(self):
        for base in (2, 3, 7, 10):
            for modulus in (1, 2, 5, 11, 12):
                for weights in ([modulus - 1], [0], [at % modulus for at in range(6)], [modulus - 1] * 6,
                                [at * 5 % modulus for at in range(4)]):
                    scheme = weighted(base, weights, modulus)
                    self.assertTrue(is_of_tuples(scheme))
                    self.assertEqual((scheme[0], len(scheme[1])), (base, len(weights)))
                    for turn, weight in enumerate(weights):
                        self.assertEqual(len(scheme[1][turn]), modulus)
                        for state in range(modulus):
                            for figure in range(base):
                                self.assertEqual(scheme[1][turn][state][figure], (state + figure * weight) % modulus)

    def test_a_state_is_the_rest_of_the_sum(self):
        for base, weights, modulus in ((2, [1], 12), (10, [1, 2, 3, 4, 5, 6], 11), (10, [11, 0, 7], 12), (5, [0], 1)):
            scheme = weighted(base, weights, modulus)
            for length in (0, 1, 2, 6, 7, 13, 60):
                figures = made_figures(base, length, 9)
                total = sum(figure * weights[place % len(weights)] for place, figure in enumerate(figures))
                self.assertEqual(state_after(scheme, figures), total % modulus)

    def test_the_weights_are_left_alone_and_not_kept(self):
        weights = [1, 3]
        scheme = weighted(10, weights, 10)
        self.assertEqual(weights, [1, 3])
        weights[0] = 7
        weights.append(9)
        self.assertEqual(scheme, ARTICLES)
        self.assertEqual(weighted(10, [1, 3], 10), ARTICLES)


class Both(unittest.TestCase):
    def assert_both(self, scheme, other, most):
        made_of_both = both(scheme, other)
        self.assertTrue(is_of_tuples(made_of_both))
        self.assertEqual(read(shown(made_of_both)), made_of_both)
        for length in range(most + 1):
            for figures in all_numbers(scheme[0], length):
                expected = slow_state(scheme, figures) == 0 and slow_state(other, figures) == 0
                self.assertIs(good(made_of_both, figures), expected)

    def test_all_short_numbers(self):
        for base, states, tables, other_states, other_tables, most in (
                (2, 3, 2, 4, 3, 9), (2, 1, 1, 1, 1, 4), (2, 2, 1, 6, 6, 8), (2, 12, 5, 1, 1, 8), (2, 1, 4, 12, 2, 8),
                (3, 2, 3, 3, 2, 6), (3, 3, 6, 4, 6, 6), (4, 4, 1, 3, 4, 4), (10, 3, 2, 3, 3, 3), (10, 2, 1, 5, 1, 3)):
            for seed in range(4):
                for draw in (made, latin):
                    scheme = draw(base, states, tables, seed)
                    other = draw(base, other_states, other_tables, seed + 9)
                    with self.subTest(scheme=scheme, other=other):
                        self.assert_both(scheme, other, most)
                        self.assert_both(other, scheme, most)

    def test_longer_numbers(self):
        # By 2 and by 3, so by 6.
        scheme = both(weighted(10, [1], 2), weighted(10, [1], 3))
        self.assertIsNone(parted(scheme, weighted(10, [1], 6)))
        scheme = both(counting(2, 2, 3), counting(2, 3, 3))
        lengths = [length for length in range(61) if good(scheme, [1] * length)]
        self.assertEqual(lengths, [
            length for length in range(61)
            if good(counting(2, 2, 3), [1] * length) and good(counting(2, 3, 3), [1] * length)])

    def test_how_many_tables(self):
        rooms = {(2, 3): 6, (3, 2): 6, (1, 6): 6, (6, 6): 6, (2, 6): 6, (4, 2): 4, (5, 1): 5, (5, 5): 5, (1, 1): 1}
        for (tables, other_tables), together in rooms.items():
            scheme = both(made(3, 2, tables, 1), made(3, 3, other_tables, 2))
            self.assertEqual(len(scheme[1]), together)

    def test_how_many_states(self):
        for states in range(1, 13):
            for other_states in range(1, 12 // states + 1):
                scheme = both(made(3, states, 2, 1), made(3, other_states, 3, 2))
                self.assertEqual({len(table) for table in scheme[1]}, {states * other_states})

    def test_a_scheme_and_itself(self):
        for scheme in (made(2, 3, 6, 4), BLIND, weighted(10, [1, 2], 3)):
            self.assertIsNone(parted(both(scheme, scheme), scheme))
            self.assertIsNone(parted(both(scheme, BLIND if scheme[0] == 2 else weighted(10, [0], 1)), scheme))


class Parted(unittest.TestCase):
    def assert_parted(self, scheme, other, most):
        number = parted(scheme, other)
        length = shortest_parting(scheme, other, most)
        if number is None:
            self.assertIsNone(length)
            self.assertIsNone(parted(other, scheme))
            return None
        self.assertIs(number.__class__, list)
        self.assertNotEqual(slow_state(scheme, number) == 0, slow_state(other, number) == 0)
        self.assertEqual(length, len(number) if len(number) <= most else None)
        back = parted(other, scheme)
        self.assertNotEqual(slow_state(scheme, back) == 0, slow_state(other, back) == 0)
        self.assertEqual(len(back), len(number))
        return len(number)

    def test_alike_ones(self):
        for size in ((2, 1, 1), (2, 12, 3), (3, 5, 2), (7, 3, 1), (10, 12, 3), (10, 10, 1)):
            for seed in range(4):
                scheme = made(*size, seed=seed)
                twice = (scheme[0], scheme[1] * 2)
                with self.subTest(scheme=scheme):
                    self.assertIsNone(parted(scheme, scheme))
                    for other in (renumbered(scheme, seed + 1), twice, renumbered(twice, seed + 2)):
                        self.assertIsNone(parted(scheme, other))
                        self.assertIsNone(parted(other, scheme))
        self.assertNotEqual(renumbered(DAMM, 1), DAMM)
        self.assertIsNone(parted(renumbered(DAMM, 1), renumbered(DAMM, 2)))

    def test_alike_ones_with_unlike_numbers_of_states_and_tables(self):
        self.assertIsNone(parted(weighted(10, [5], 10), weighted(10, [1] * 5, 2)))
        self.assertIsNone(parted(weighted(10, [5] * 6, 10), weighted(10, [1] * 5, 2)))
        self.assertIsNone(parted(BLIND, (2, ((((0, 0),) * 3,) * 4))))
        # State 2 is never come to.
        self.assertIsNone(parted((2, (((0, 1), (1, 0)),)), (2, (((0, 1), (1, 0), (0, 2)),))))

    def test_known_lengths(self):
        self.assertEqual(self.assert_parted(weighted(10, [1], 10), weighted(10, [1, 3], 10), 3), 2)
        self.assertEqual(self.assert_parted(weighted(2, [1], 2), BLIND, 4), 1)
        self.assertEqual(self.assert_parted(weighted(2, [1], 6), weighted(2, [1], 5), 6), 5)
        self.assertEqual(self.assert_parted(DAMM, renumbered((10, DAMM[1] * 2), 3), 3), None)

    def test_both_are_not_good_by_unlike_states(self):
        # 1 leads to states 1 and 2, neither of them 0, and no figure leads on.
        scheme = (2, (((0, 1), (1, 1), (2, 2)),))
        self.assertIsNone(parted(scheme, (2, (((0, 2), (1, 1), (2, 2)),))))

    def test_a_late_turn(self):
        late = (2, (((0, 0), (0, 0)),) * 5 + (((0, 1), (0, 0)),))
        self.assertEqual(len(parted(late, BLIND)), 6)
        self.assertEqual(len(parted(BLIND, late)), 6)
        self.assertEqual(len(parted(late, (2, (((0, 0),),) * 5))), 6)

    def test_numbers_as_long_as_the_states_of_both_let_them_be(self):
        never = (2, (((1, 1), (1, 1)),))
        for other in (never, (2, never[1] * 5)):
            number = parted(counting(2, 6, 12), other)
            self.assertEqual(len(number), 66)
            self.assertIs(good(counting(2, 6, 12), number), True)
            self.assertIs(good(other, number), False)
        self.assertEqual(len(parted(counting(10, 6, 12), counting(10, 5, 12))), 55)
        self.assertEqual(len(parted(counting(10, 5, 12), counting(10, 6, 12))), 55)
        # Numbers are good at the multiples of 11 by the one, and at those of 10 by the other.
        self.assertEqual(len(parted(counting(3, 1, 12), counting(3, 1, 11))), 10)

    def test_against_all_short_numbers(self):
        met = {}
        for base, most, sizes in ((2, 8, ((1, 1), (2, 1), (2, 3), (3, 2), (12, 6), (12, 5))),
                                  (3, 5, ((1, 2), (2, 1), (3, 4), (4, 3))), (4, 4, ((2, 2), (4, 1)))):
            for states, tables in sizes:
                for other_states, other_tables in sizes:
                    for seed in range(3):
                        for draw in (made, latin):
                            scheme = draw(base, states, tables, seed)
                            other = draw(base, other_states, other_tables, seed + 5)
                            with self.subTest(scheme=scheme, other=other):
                                met[self.assert_parted(scheme, other, most)] = True
        for length in (None, 1, 2, 3):
            self.assertIn(length, met)

    def test_one_spoiled_place(self):
        met = {}
        for seed in range(3):
            scheme = made(2, 3, 3, seed)
            for turn in range(3):
                for state in range(3):
                    tables = [list(table) for table in scheme[1]]
                    row = tables[turn][state]
                    tables[turn][state] = (row[0], (row[1] + 1) % 3)
                    with self.subTest(scheme=scheme, turn=turn, state=state):
                        spoiled = (2, tuple(tuple(table) for table in tables))
                        met[self.assert_parted(scheme, spoiled, 9)] = True
        self.assertGreaterEqual(len(met), 4)

    def test_the_told_number_is_the_askers_own(self):
        number = parted(DAMM, ARTICLES)
        kept = list(number)
        number.append(77)
        self.assertEqual(parted(DAMM, ARTICLES), kept)
        self.assertIsNot(parted(DAMM, ARTICLES), parted(DAMM, ARTICLES))


if __name__ == "__main__":
    unittest.main()
