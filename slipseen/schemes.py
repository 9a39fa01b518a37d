"""Schemes, the reading of numbers by them, and check figures.

How far a reading has come is a spot: a tuple of the turn that is next and the state.
"""

from slipseen.errors import NoFigure, NoScheme
from slipseen.search import shortest

LEAST_BASE = 2
MOST_BASE = 10
MOST_TABLES = 6
MOST_STATES = 12

START = (0, 0)


def is_whole(value, least, most):
    # Python counts True and False among its whole numbers, the document doesn't.
    if isinstance(value, bool) or not isinstance(value, int):
        return False
    return least <= value <= most


def is_tuple_of(value, least, most):
    return isinstance(value, tuple) and least <= len(value) <= most


def is_row(row, base, states):
    return is_tuple_of(row, base, base) and all([is_whole(state, 0, states - 1) for state in row])


def is_table(table, base, states):
    return is_tuple_of(table, states, states) and all([is_row(row, base, states) for row in table])


def are_tables(tables, base):
    if not is_tuple_of(tables, 1, MOST_TABLES) or not is_tuple_of(tables[0], 1, MOST_STATES):
        return False
    states = len(tables[0])
    return all([is_table(table, base, states) for table in tables])


def check_scheme(scheme):
    if not is_tuple_of(scheme, 2, 2):
        raise NoScheme("a scheme is a tuple of two, its base and its tables")
    if not is_whole(scheme[0], LEAST_BASE, MOST_BASE):
        raise NoScheme("the base of a scheme is a whole number from 2 to 10")
    if not are_tables(scheme[1], scheme[0]):
        raise NoScheme("the tables of a scheme are not as its base and states ask for")


def check_figures(scheme, figures):
    for figure in figures:
        if not is_whole(figure, 0, scheme[0] - 1):
            raise NoFigure("a figure is a whole number from 0 to the base less one")


def moved(tables, spot, figures):
    turn = spot[0]
    state = spot[1]
    for figure in figures:
        state = tables[turn][state][figure]
        turn = (turn + 1) % len(tables)
    return (turn, state)


def spot_steps(scheme, spot):
    return [(figure, moved(scheme[1], spot, [figure])) for figure in range(scheme[0])]


def spot_after(scheme, figures):
    check_scheme(scheme)
    check_figures(scheme, figures)
    return moved(scheme[1], START, figures)


def checks_at(tables, spot):
    row = tables[spot[0]][spot[1]]
    return [figure for figure, state in enumerate(row) if state == 0]


def state_after(scheme, figures):
    return spot_after(scheme, figures)[1]


def good(scheme, figures):
    return state_after(scheme, figures) == 0


def checks(scheme, figures):
    spot = spot_after(scheme, figures)
    return checks_at(scheme[1], spot)


def closing(scheme):
    check_scheme(scheme)

    def steps(spot):
        return spot_steps(scheme, spot)

    def ends(spot):
        return len(checks_at(scheme[1], spot)) != 1

    return shortest(START, steps, ends)
