"""Schemes to test with, and slow answers that are found by trying all short numbers."""

from itertools import product

# The quasigroup of H. M. Damm: it closes, and sees every `one` and every `swap`.
DAMM = (10, ((
    (0, 3, 1, 7, 5, 9, 8, 6, 4, 2),
    (7, 0, 9, 2, 1, 5, 4, 8, 6, 3),
    (4, 2, 0, 6, 8, 7, 1, 3, 5, 9),
    (1, 7, 5, 0, 9, 8, 3, 4, 2, 6),
    (6, 1, 2, 3, 0, 4, 5, 9, 7, 8),
    (3, 6, 7, 4, 2, 0, 9, 5, 8, 1),
    (5, 8, 6, 9, 7, 2, 0, 1, 3, 4),
    (8, 9, 4, 5, 3, 6, 2, 0, 1, 7),
    (9, 4, 3, 8, 6, 1, 7, 2, 0, 5),
    (2, 5, 8, 1, 4, 3, 6, 7, 9, 0),
),))

KINDS = ("one", "swap", "twin", "jump", "out")


def summed(base, weights, modulus):
    """A scheme whose state is the rest of the weighted sum of the figures."""
    return (base, tuple(
        tuple(tuple((state + figure * weight) % modulus for figure in range(base)) for state in range(modulus))
        for weight in weights))


# Article numbers, with the weights 1 and 3 in turn.
ARTICLES = summed(10, (1, 3), 10)
# One state: every number is good, and nothing is seen.
BLIND = (2, (((0, 0),),))
# 1 leads from state to state, 0 back; only the last state, at the last turn, has two check figures.
LATE = (2, tuple(
    ((0, 1),) + tuple(
        (0, state if turn < 5 else (state + 1) % 12)
        for state in range(1, 12))
    for turn in range(6)))


def made(base, states, tables, seed):
    """A scheme of these sizes whose states come from a plain row of remainders."""
    value = seed * 7919 + base * 101 + states * 11 + tables
    drawn = []
    for _ in range(base * states * tables):
        value = (value * 1103515245 + 12345) % 2147483648
        drawn.append((value >> 12) % states)
    rows = [tuple(drawn[at:at + base]) for at in range(0, len(drawn), base)]
    return (base, tuple(tuple(rows[at:at + states]) for at in range(0, len(rows), states)))


def made_figures(base, length, seed):
    value = seed * 31 + length
    drawn = []
    for _ in range(length):
        value = (value * 1103515245 + 12345) % 2147483648
        drawn.append((value >> 12) % base)
    return drawn


def latin(base, states, tables, seed):
    """A scheme in which, at each spot, different figures lead to different states."""
    drawn = made(base, 12, tables, seed)[1]
    return (base, tuple(
        tuple(tuple((figure + sum(drawn[turn][state])) % states for figure in range(base)) for state in range(states))
        for turn in range(tables)))


def slow_state(scheme, figures):
    tables = scheme[1]
    state = 0
    for place, figure in enumerate(figures):
        state = tables[place % len(tables)][state][figure]
    return state


def slow_checks(scheme, figures):
    return [figure for figure in range(scheme[0]) if slow_state(scheme, list(figures) + [figure]) == 0]


def all_numbers(base, length):
    return [list(figures) for figures in product(range(base), repeat=length)]


def slow_slips(base, kind, figures):
    """The slips as the document says them, each one a copy with single figures set anew."""
    told = []
    for at in range(len(figures)):
        if kind == "out":
            told.append([figure for place, figure in enumerate(figures) if place != at])
        for new in range(base):
            copy = list(figures)
            if kind == "one" and figures[at] != new:
                copy[at] = new
                told.append(copy)
            if kind == "twin" and figures[at:at + 2] == [figures[at]] * 2 and figures[at] != new:
                copy[at] = new
                copy[at + 1] = new
                told.append(copy)
        far = at + {"swap": 1, "jump": 2}.get(kind, len(figures))
        if far < len(figures) and figures[at] != figures[far]:
            copy = list(figures)
            copy[at] = figures[far]
            copy[far] = figures[at]
            told.append(copy)
    return told


def shortest_open(scheme, most):
    """The length of the shortest number without just one check figure, up to a length; else None."""
    for length in range(most + 1):
        for figures in all_numbers(scheme[0], length):
            if len(slow_checks(scheme, figures)) != 1:
                return length
    return None


def shortest_unseen(scheme, kind, most):
    """The length of the shortest good number with a good slip, up to a length; else None."""
    for length in range(most + 1):
        for figures in all_numbers(scheme[0], length):
            if slow_state(scheme, figures) == 0:
                for slip in slow_slips(scheme[0], kind, figures):
                    if slow_state(scheme, slip) == 0:
                        return length
    return None
