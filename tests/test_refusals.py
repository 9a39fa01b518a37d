import unittest

from slipseen import errors
from slipseen.schemes import checks, closing, good, state_after
from slipseen.slips import slips, unseen
from tests.support import BLIND, DAMM, KINDS, made, summed

HUGE = 10 ** 40
TABLE = ((0, 1), (1, 0))


def with_state(scheme, turn, state, figure, value):
    tables = [[list(row) for row in table] for table in scheme[1]]
    tables[turn][state][figure] = value
    return (scheme[0], tuple(tuple(tuple(row) for row in table) for table in tables))


LARGE = made(10, 12, 6, 1)

NO_SCHEMES = {
    "nothing in it": (),
    "base alone": (2,),
    "three in it": (2, (TABLE,), 0),
    "base 1": (1, (((0,), (0,)),)),
    "base 0": (0, (((), ()),)),
    "base below 0": (-2, (TABLE,)),
    "base 11": (11, (((0,) * 11,),)),
    "huge base": (HUGE, (TABLE,)),
    "no tables": (2, ()),
    "7 tables": (2, (TABLE,) * 7),
    "many tables": (2, (TABLE,) * 100),
    "a table without rows": (2, ((),)),
    "tables without rows": (2, ((), ())),
    "13 rows": (2, (((0, 1),) * 13,)),
    "many rows": (2, (((0, 1),) * 200,)),
    "fewer rows in a later table": (2, (((0, 1), (0, 0)), ((0, 0),))),
    "more rows in a later table": (2, (((0, 0),), ((0, 0), (0, 0)))),
    "no rows in a later table": (2, (TABLE, ())),
    "a row too short": (2, (((0, 1), (0,)),)),
    "a row too long": (2, (((0, 1, 0), (0, 0)),)),
    "a row of none": (2, (((), ()),)),
    "rows for a lesser base": (3, (TABLE,)),
    "rows for a greater base": (2, summed(3, (1,), 2)[1]),
    "a row too short in the last table": (2, (TABLE, ((0, 1), (0,)))),
    "a state below 0": (2, (((0, -1), (0, 0)),)),
    "a state as many as there are": (2, (((0, 2), (0, 0)),)),
    "a state other than 0 where there is one": (2, (((0, 1),),)),
    "a huge state": (2, (((0, HUGE), (0, 0)),)),
    "a huge state below 0": (2, (((0, -HUGE), (0, 0)),)),
    "the last of all below 0": with_state(LARGE, 5, 11, 9, -1),
    "the last of all too great": with_state(LARGE, 5, 11, 9, 12),
    "the first of all too great": with_state(LARGE, 0, 0, 0, 12),
    "one in the midst too great": with_state(LARGE, 3, 5, 4, 12),
}

EDGES = (
    BLIND,
    (2, (((0, 0),),) * 6),
    (2, (((0, 11),) * 12,)),
    (10, (((0,) * 10,),)),
    (10, (((11,) * 10,) * 12,) * 6),
    LARGE,
    DAMM,
)

NO_KINDS = ("", "ones", "One", "ONE", " one", "one ", "one\n", "onetwo", "on", "double", "swaps", "0", "one, swap")

NO_FIGURES = (-1, 10, 11, -10, HUGE, -HUGE)

CLASSES = ("NoScheme", "OtherBase", "NoRoom", "NoKind", "NoFigure", "NoNote")


class Refusals(unittest.TestCase):
    def assert_refused(self, name, ask, *handed):
        with self.assertRaises(ValueError) as caught:
            ask(*handed)
        self.assertIsInstance(caught.exception, errors.SlipError)
        met = [other for other in CLASSES if isinstance(caught.exception, getattr(errors, other))]
        self.assertEqual(met, [name])

    def test_no_scheme(self):
        for words, scheme in NO_SCHEMES.items():
            with self.subTest(words):
                for ask in (state_after, good, checks):
                    self.assert_refused("NoScheme", ask, scheme, [])
                    self.assert_refused("NoScheme", ask, scheme, [0, 1])
                self.assert_refused("NoScheme", closing, scheme)
                for kind in KINDS:
                    self.assert_refused("NoScheme", slips, scheme, kind, [0, 1])
                    self.assert_refused("NoScheme", unseen, scheme, kind)

    def test_the_outermost_schemes_are_taken(self):
        for scheme in EDGES:
            state_after(scheme, [0, 1])
            good(scheme, [0, 1])
            checks(scheme, [0, 1])
            closing(scheme)
            for kind in KINDS:
                slips(scheme, kind, [0, 1])
                unseen(scheme, kind)

    def test_no_kind(self):
        for kind in NO_KINDS:
            with self.subTest(kind):
                self.assert_refused("NoKind", slips, DAMM, kind, [5, 7, 2])
                self.assert_refused("NoKind", slips, DAMM, kind, [])
                self.assert_refused("NoKind", unseen, DAMM, kind)

    def test_no_figure(self):
        for figure in NO_FIGURES:
            for figures in ([figure], [figure, 1, 2], [1, figure, 2], [1, 2, figure], [1] * 59 + [figure],
                            [1] * 65 + [figure]):
                with self.subTest(figures=figures):
                    for ask in (state_after, good, checks):
                        self.assert_refused("NoFigure", ask, DAMM, figures)
                    for kind in KINDS:
                        self.assert_refused("NoFigure", slips, DAMM, kind, figures)

    def test_figures_by_the_base_of_the_scheme(self):
        for base in range(2, 11):
            scheme = made(base, 12, 2, 1)
            state_after(scheme, [0, base - 1])
            for ask in (state_after, good, checks):
                self.assert_refused("NoFigure", ask, scheme, [0, base])
            for kind in KINDS:
                slips(scheme, kind, [0, base - 1])
                self.assert_refused("NoFigure", slips, scheme, kind, [0, base])

    def test_a_figure_below_the_number_of_states_is_still_no_figure(self):
        scheme = made(2, 12, 1, 1)
        for figure in range(2, 12):
            self.assert_refused("NoFigure", state_after, scheme, [figure])

    def test_the_order_of_the_refusals(self):
        for scheme in NO_SCHEMES.values():
            self.assert_refused("NoScheme", slips, scheme, "none", [HUGE])
            self.assert_refused("NoScheme", slips, scheme, "none", [0])
            self.assert_refused("NoScheme", slips, scheme, "one", [-1])
            self.assert_refused("NoScheme", unseen, scheme, "none")
            for ask in (state_after, good, checks):
                self.assert_refused("NoScheme", ask, scheme, [-1])
        for figure in NO_FIGURES:
            self.assert_refused("NoKind", slips, DAMM, "none", [figure])

    def test_a_refusal_leaves_what_was_handed_in(self):
        figures = [1, 2, 10]
        self.assert_refused("NoFigure", slips, DAMM, "out", figures)
        self.assert_refused("NoFigure", checks, DAMM, figures)
        self.assertEqual(figures, [1, 2, 10])


if __name__ == "__main__":
    unittest.main()
