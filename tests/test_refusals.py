import math
import unittest

from slipseen import errors
from slipseen.counts import good_count, missed
from slipseen.making import both, parted, weighted
from slipseen.notes import read, shown
from slipseen.schemes import checks, closing, good, state_after
from slipseen.slips import slips, unseen
from tests.support import BLIND, DAMM, KINDS, made, summed

HUGE = 10 ** 40
TABLE = ((0, 1), (1, 0))


def with_state(scheme, turn, state, figure, value):
    tables = [[list(row) for row in table] for table in scheme[1]]
    tables[turn][state][figure] = value
    return (scheme[0], tuple(tuple(tuple(row) for row in table) for table in tables))


def as_if_shown(scheme):
    """What would be written if the scheme were one."""
    tables = scheme[1]
    lines = [(scheme[0], len(tables[0]) if tables else 1, len(tables))] + [row for table in tables for row in table]
    return "\n".join(" ".join(str(number) for number in line) for line in lines)


LARGE = made(10, 12, 6, 1)

NO_SCHEMES = {
    "nothing in it": (),
    "base alone": (2,),
    "three in it": (2, (TABLE,), 0),
    "base 1": (1, (((0,), (0,)),)),
    "base 0": (0, (((), ()),)),
    "base below 0": (-2, (TABLE,)),
    "base 11": (11, (((0,) * 11,),)),
    "huge base": (HUGE, (TABLE,)),
    "no tables": (2, ()),
    "7 tables": (2, (TABLE,) * 7),
    "many tables": (2, (TABLE,) * 100),
    "a table without rows": (2, ((),)),
    "tables without rows": (2, ((), ())),
    "13 rows": (2, (((0, 1),) * 13,)),
    "many rows": (2, (((0, 1),) * 200,)),
    "fewer rows in a later table": (2, (((0, 1), (0, 0)), ((0, 0),))),
    "more rows in a later table": (2, (((0, 0),), ((0, 0), (0, 0)))),
    "no rows in a later table": (2, (TABLE, ())),
    "a row too short": (2, (((0, 1), (0,)),)),
    "a row too long": (2, (((0, 1, 0), (0, 0)),)),
    "a row of none": (2, (((), ()),)),
    "rows for a lesser base": (3, (TABLE,)),
    "rows for a greater base": (2, summed(3, (1,), 2)[1]),
    "a row too short in the last table": (2, (TABLE, ((0, 1), (0,)))),
    "a state below 0": (2, (((0, -1), (0, 0)),)),
    "a state as many as there are": (2, (((0, 2), (0, 0)),)),
    "a state other than 0 where there is one": (2, (((0, 1),),)),
    "a huge state": (2, (((0, HUGE), (0, 0)),)),
    "a huge state below 0": (2, (((0, -HUGE), (0, 0)),)),
    "the last of all below 0": with_state(LARGE, 5, 11, 9, -1),
    "the last of all too great": with_state(LARGE, 5, 11, 9, 12),
    "the first of all too great": with_state(LARGE, 0, 0, 0, 12),
    "one in the midst too great": with_state(LARGE, 3, 5, 4, 12),
}

EDGES = (
    BLIND,
    (2, (((0, 0),),) * 6),
    (2, (((0, 11),) * 12,)),
    (10, (((0,) * 10,),)),
    (10, (((11,) * 10,) * 12,) * 6),
    LARGE,
    DAMM,
)

NO_KINDS = ("", "ones", "One", "ONE", " one", "one ", "one\n", "onetwo", "on", "double", "swaps", "0", "one, swap")

NO_FIGURES = (-1, 10, 11, -10, HUGE, -HUGE)

CLASSES = ("NoScheme", "OtherBase", "NoRoom", "NoKind", "NoFigure", "NoNote")


class Refusals(unittest.TestCase):
    def assert_refused(self, name, ask, *handed):
        with self.assertRaises(ValueError) as caught:
            ask(*handed)
        self.assertIsInstance(caught.exception, errors.SlipError)
        met = [other for other in CLASSES if isinstance(caught.exception, getattr(errors, other))]
        self.assertEqual(met, [name])

    def test_no_scheme(self):
        for words, scheme in NO_SCHEMES.items():
            with self.subTest(words):
                for ask in (state_after, good, checks):
                    self.assert_refused("NoScheme", ask, scheme, [])
                    self.assert_refused("NoScheme", ask, scheme, [0, 1])
                self.assert_refused("NoScheme", closing, scheme)
                for length in (0, 3, 30):
                    self.assert_refused("NoScheme", good_count, scheme, length)
                self.assert_refused("NoScheme", shown, scheme)
                for kind in KINDS:
                    self.assert_refused("NoScheme", slips, scheme, kind, [0, 1])
                    self.assert_refused("NoScheme", unseen, scheme, kind)
                    self.assert_refused("NoScheme", missed, scheme, kind, 0)
                    self.assert_refused("NoScheme", missed, scheme, kind, 30)

    def test_no_scheme_as_the_first_and_as_the_second(self):
        for words, scheme in NO_SCHEMES.items():
            with self.subTest(words):
                for ask in (both, parted):
                    for other in EDGES:
                        self.assert_refused("NoScheme", ask, scheme, other)
                        self.assert_refused("NoScheme", ask, other, scheme)
                    self.assert_refused("NoScheme", ask, scheme, scheme)
                    for other in NO_SCHEMES.values():
                        self.assert_refused("NoScheme", ask, scheme, other)

    def test_no_weighted_scheme(self):
        for base in (1, 0, -1, -2, 11, 12, HUGE, -HUGE):
            self.assert_refused("NoScheme", weighted, base, [1], 2)
        for modulus in (0, -1, 13, 14, HUGE, -HUGE):
            self.assert_refused("NoScheme", weighted, 10, [0], modulus)
            self.assert_refused("NoScheme", weighted, 10, [1, 3], modulus)
            self.assert_refused("NoScheme", weighted, 10, [], modulus)
        for weights in ([], [1] * 7, [0] * 1000, [-1], [2], [HUGE], [-HUGE], [1, 2], [0, 0, 0, 0, 0, 2], [1, -1, 1],
                        [1] * 6 + [2]):
            self.assert_refused("NoScheme", weighted, 2, weights, 2)
        for modulus in range(1, 13):
            weighted(2, [0, modulus - 1], modulus)
            self.assert_refused("NoScheme", weighted, 2, [modulus], modulus)
            self.assert_refused("NoScheme", weighted, 2, [0, -1], modulus)
        self.assert_refused("NoScheme", weighted, HUGE, [HUGE] * 7, HUGE)
        self.assert_refused("NoScheme", weighted, HUGE, [0], 1)
        weights = [1, 3, 10]
        self.assert_refused("NoScheme", weighted, 10, weights, 10)
        self.assertEqual(weights, [1, 3, 10])

    def test_other_base(self):
        for base in range(2, 11):
            for other_base in range(2, 11):
                scheme = made(base, 3, 2, 1)
                other = made(other_base, 4, 3, 2)
                if base == other_base:
                    both(scheme, other)
                    parted(scheme, other)
                else:
                    self.assert_refused("OtherBase", both, scheme, other)
                    self.assert_refused("OtherBase", parted, scheme, other)

    def test_other_base_is_ahead_of_no_room(self):
        for scheme, other in ((made(2, 12, 1, 1), made(3, 12, 1, 1)), (made(2, 1, 5, 1), made(3, 1, 6, 1)),
                              (LARGE, made(9, 12, 5, 1)), (LARGE, made(2, 2, 4, 1))):
            self.assert_refused("OtherBase", both, scheme, other)
            self.assert_refused("OtherBase", both, other, scheme)
            self.assert_refused("OtherBase", parted, other, scheme)

    def test_no_room_for_the_tables(self):
        for tables in range(1, 7):
            for other_tables in range(1, 7):
                scheme = made(2, 3, tables, 1)
                other = made(2, 4, other_tables, 2)
                if math.lcm(tables, other_tables) > 6:
                    self.assert_refused("NoRoom", both, scheme, other)
                else:
                    self.assertEqual(len(both(scheme, other)[1]), math.lcm(tables, other_tables))
                parted(scheme, other)

    def test_no_room_for_the_states(self):
        for states in range(1, 13):
            for other_states in range(1, 13):
                scheme = made(2, states, 2, 1)
                other = made(2, other_states, 3, 2)
                if states * other_states > 12:
                    self.assert_refused("NoRoom", both, scheme, other)
                else:
                    self.assertEqual(len(both(scheme, other)[1][0]), states * other_states)
                parted(scheme, other)

    def test_no_room_for_tables_and_states(self):
        self.assert_refused("NoRoom", both, LARGE, made(10, 12, 5, 1))
        self.assert_refused("NoRoom", both, LARGE, LARGE)
        parted(LARGE, made(10, 12, 5, 1))

    def test_no_note(self):
        for text in ("", "2 1 1", "2 1 1\n0 1", "2 1 1\n0 0\n", "1 1 1\n0", "one", "2 1 1\n0 " + "9" * 4400):
            self.assert_refused("NoNote", read, text)
        for words, scheme in NO_SCHEMES.items():
            if len(scheme) == 2:
                with self.subTest(words):
                    self.assert_refused("NoNote", read, as_if_shown(scheme))

    def test_the_outermost_schemes_are_taken(self):
        for scheme in EDGES:
            state_after(scheme, [0, 1])
            good(scheme, [0, 1])
            checks(scheme, [0, 1])
            closing(scheme)
            good_count(scheme, 3)
            shown(scheme)
            for kind in KINDS:
                slips(scheme, kind, [0, 1])
                unseen(scheme, kind)
                missed(scheme, kind, 3)
            one_state = (scheme[0], (((0,) * scheme[0],),))
            for asked in ((scheme, one_state), (one_state, scheme)):
                both(*asked)
                parted(*asked)

    def test_no_kind(self):
        for kind in NO_KINDS:
            with self.subTest(kind):
                self.assert_refused("NoKind", slips, DAMM, kind, [5, 7, 2])
                self.assert_refused("NoKind", slips, DAMM, kind, [])
                self.assert_refused("NoKind", unseen, DAMM, kind)
                for length in (0, 1, 30):
                    self.assert_refused("NoKind", missed, DAMM, kind, length)

    def test_no_figure(self):
        for figure in NO_FIGURES:
            for figures in ([figure], [figure, 1, 2], [1, figure, 2], [1, 2, figure], [1] * 59 + [figure],
                            [1] * 65 + [figure]):
                with self.subTest(figures=figures):
                    for ask in (state_after, good, checks):
                        self.assert_refused("NoFigure", ask, DAMM, figures)
                    for kind in KINDS:
                        self.assert_refused("NoFigure", slips, DAMM, kind, figures)

    def test_figures_by_the_base_of_the_scheme(self):
        for base in range(2, 11):
            scheme = made(base, 12, 2, 1)
            state_after(scheme, [0, base - 1])
            for ask in (state_after, good, checks):
                self.assert_refused("NoFigure", ask, scheme, [0, base])
            for kind in KINDS:
                slips(scheme, kind, [0, base - 1])
                self.assert_refused("NoFigure", slips, scheme, kind, [0, base])

    def test_a_figure_below_the_number_of_states_is_still_no_figure(self):
        scheme = made(2, 12, 1, 1)
        for figure in range(2, 12):
            self.assert_refused("NoFigure", state_after, scheme, [figure])

    def test_the_order_of_the_refusals(self):
        for scheme in NO_SCHEMES.values():
            self.assert_refused("NoScheme", slips, scheme, "none", [HUGE])
            self.assert_refused("NoScheme", slips, scheme, "none", [0])
            self.assert_refused("NoScheme", slips, scheme, "one", [-1])
            self.assert_refused("NoScheme", unseen, scheme, "none")
            self.assert_refused("NoScheme", missed, scheme, "none", 5)
            for ask in (state_after, good, checks):
                self.assert_refused("NoScheme", ask, scheme, [-1])
        for figure in NO_FIGURES:
            self.assert_refused("NoKind", slips, DAMM, "none", [figure])

    def test_a_refusal_leaves_what_was_handed_in(self):
        figures = [1, 2, 10]
        self.assert_refused("NoFigure", slips, DAMM, "out", figures)
        self.assert_refused("NoFigure", checks, DAMM, figures)
        self.assertEqual(figures, [1, 2, 10])


if __name__ == "__main__":
    unittest.main()
