"""Schemes from weights, schemes from two schemes, and what tells two schemes apart."""

from slipseen.errors import NoRoom, NoScheme, OtherBase
from slipseen.schemes import (
    LEAST_BASE, MOST_BASE, MOST_STATES, MOST_TABLES, START, check_scheme, is_whole, moved)
from slipseen.search import shortest


def check_weighting(base, weights, modulus):
    if not is_whole(base, LEAST_BASE, MOST_BASE):
        raise NoScheme("the base of a scheme is a whole number from 2 to 10")
    if not is_whole(modulus, 1, MOST_STATES):
        raise NoScheme("a modulus is a whole number from 1 to 12")
    if not 1 <= len(weights) <= MOST_TABLES:
        raise NoScheme("a scheme has 1 to 6 weights")
    if not all([is_whole(weight, 0, modulus - 1) for weight in weights]):
        raise NoScheme("a weight is a whole number from 0 to the modulus less one")


def weighted_row(base, weight, modulus, state):
    return tuple([(state + figure * weight) % modulus for figure in range(base)])


def weighted_table(base, weight, modulus):
    return tuple([weighted_row(base, weight, modulus, state) for state in range(modulus)])


def weighted(base, weights, modulus):
    check_weighting(base, weights, modulus)
    return (base, tuple([weighted_table(base, weight, modulus) for weight in weights]))


def check_pair(scheme, other):
    check_scheme(scheme)
    check_scheme(other)
    if scheme[0] != other[0]:
        raise OtherBase("the two schemes have unlike bases")


def common_turns(tables, others):
    turns = len(tables)
    while turns % len(others) != 0:
        turns = turns + len(tables)
    return turns


# A pair of states is told as one number, the first state times how many second ones there are
# and the second one: so just the pair of 0 and 0 is 0.
def paired_row(row, other_row, other_states):
    return tuple([state * other_states + other for state, other in zip(row, other_row)])


def paired_table(table, other_table):
    rows = []
    for row in table:
        rows.extend([paired_row(row, other_row, len(other_table)) for other_row in other_table])
    return tuple(rows)


def both(scheme, other):
    check_pair(scheme, other)
    tables = scheme[1]
    others = other[1]
    turns = common_turns(tables, others)
    if turns > MOST_TABLES or len(tables[0]) * len(others[0]) > MOST_STATES:
        raise NoRoom("the two schemes together have more than 12 states or 6 tables")
    paired = [paired_table(tables[turn % len(tables)], others[turn % len(others)]) for turn in range(turns)]
    return (scheme[0], tuple(paired))


def parted(scheme, other):
    check_pair(scheme, other)

    def steps(node):
        return [
            (figure, (moved(scheme[1], node[0], [figure]), moved(other[1], node[1], [figure])))
            for figure in range(scheme[0])]

    def ends(node):
        return (node[0][1] == 0) != (node[1][1] == 0)

    return shortest((START, START), steps, ends)
