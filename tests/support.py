"""Schemes to test with, and slow answers that are found by trying all short numbers."""

from functools import lru_cache
from itertools import product

# The quasigroup of H. M. Damm: it closes, and sees every `one` and every `swap`.
DAMM = (10, ((
    (0, 3, 1, 7, 5, 9, 8, 6, 4, 2),
    (7, 0, 9, 2, 1, 5, 4, 8, 6, 3),
    (4, 2, 0, 6, 8, 7, 1, 3, 5, 9),
    (1, 7, 5, 0, 9, 8, 3, 4, 2, 6),
    (6, 1, 2, 3, 0, 4, 5, 9, 7, 8),
    (3, 6, 7, 4, 2, 0, 9, 5, 8, 1),
    (5, 8, 6, 9, 7, 2, 0, 1, 3, 4),
    (8, 9, 4, 5, 3, 6, 2, 0, 1, 7),
    (9, 4, 3, 8, 6, 1, 7, 2, 0, 5),
    (2, 5, 8, 1, 4, 3, 6, 7, 9, 0),
),))

KINDS = ("one", "swap", "twin", "jump", "out")


def summed(base, weights, modulus):
    """A scheme whose state is the rest of the weighted sum of the figures."""
    return (base, tuple(
        tuple(tuple((state + figure * weight) % modulus for figure in range(base)) for state in range(modulus))
        for weight in weights))


# Article numbers, with the weights 1 and 3 in turn.
ARTICLES = summed(10, (1, 3), 10)
# One state: every number is good, and nothing is seen.
BLIND = (2, (((0, 0),),))
# 1 leads from state to state, 0 back; only the last state, at the last turn, has two check figures.
LATE = (2, tuple(
    ((0, 1),) + tuple(
        (0, state if turn < 5 else (state + 1) % 12)
        for state in range(1, 12))
    for turn in range(6)))


def made(base, states, tables, seed):
    """A scheme of these sizes whose states come from a plain row of remainders."""
    value = seed * 7919 + base * 101 + states * 11 + tables
    drawn = []
    for _ in range(base * states * tables):
        value = (value * 1103515245 + 12345) % 2147483648
        drawn.append((value >> 12) % states)
    rows = [tuple(drawn[at:at + base]) for at in range(0, len(drawn), base)]
    return (base, tuple(tuple(rows[at:at + states]) for at in range(0, len(rows), states)))


def made_figures(base, length, seed):
    value = seed * 31 + length
    drawn = []
    for _ in range(length):
        value = (value * 1103515245 + 12345) % 2147483648
        drawn.append((value >> 12) % base)
    return drawn


def latin(base, states, tables, seed):
    """A scheme in which, at each spot, different figures lead to different states."""
    drawn = made(base, 12, tables, seed)[1]
    return (base, tuple(
        tuple(tuple((figure + sum(drawn[turn][state])) % states for figure in range(base)) for state in range(states))
        for turn in range(tables)))


def slow_state(scheme, figures):
    tables = scheme[1]
    state = 0
    for place, figure in enumerate(figures):
        state = tables[place % len(tables)][state][figure]
    return state


def slow_checks(scheme, figures):
    return [figure for figure in range(scheme[0]) if slow_state(scheme, list(figures) + [figure]) == 0]


def all_numbers(base, length):
    return [list(figures) for figures in product(range(base), repeat=length)]


def slow_slips(base, kind, figures):
    """The slips as the document says them, each one a copy with single figures set anew."""
    told = []
    for at in range(len(figures)):
        if kind == "out":
            told.append([figure for place, figure in enumerate(figures) if place != at])
        for new in range(base):
            copy = list(figures)
            if kind == "one" and figures[at] != new:
                copy[at] = new
                told.append(copy)
            if kind == "twin" and figures[at:at + 2] == [figures[at]] * 2 and figures[at] != new:
                copy[at] = new
                copy[at + 1] = new
                told.append(copy)
        far = at + {"swap": 1, "jump": 2}.get(kind, len(figures))
        if far < len(figures) and figures[at] != figures[far]:
            copy = list(figures)
            copy[at] = figures[far]
            copy[far] = figures[at]
            told.append(copy)
    return told


def shortest_open(scheme, most):
    """The length of the shortest number without just one check figure, up to a length; else None."""
    for length in range(most + 1):
        for figures in all_numbers(scheme[0], length):
            if len(slow_checks(scheme, figures)) != 1:
                return length
    return None


def shortest_unseen(scheme, kind, most):
    """The length of the shortest good number with a good slip, up to a length; else None."""
    for length in range(most + 1):
        for figures in all_numbers(scheme[0], length):
            if slow_state(scheme, figures) == 0:
                for slip in slow_slips(scheme[0], kind, figures):
                    if slow_state(scheme, slip) == 0:
                        return length
    return None


def slow_good_count(scheme, length):
    return len([figures for figures in all_numbers(scheme[0], length) if slow_state(scheme, figures) == 0])


def slow_missed(scheme, kind, length):
    """The missed slips, counted one by one."""
    count = 0
    for figures in all_numbers(scheme[0], length):
        if slow_state(scheme, figures) == 0:
            count += len([slip for slip in slow_slips(scheme[0], kind, figures) if slow_state(scheme, slip) == 0])
    return count


def read_on(scheme, place, state, figures):
    for figure in figures:
        state = scheme[1][place % len(scheme[1])][state][figure]
        place += 1
    return state


def far_missed(scheme, kind, length):
    """The missed slips of longer numbers, place by place: the ways ahead of the slip times those behind it."""
    base = scheme[0]
    width = {"one": 1, "swap": 2, "twin": 2, "jump": 3, "out": 1}[kind]
    pairs = [(window, written) for window in all_numbers(base, width) for written in slow_slips(base, kind, window)]

    @lru_cache(maxsize=None)
    def ahead(place, state):
        if place == 0:
            return int(state == 0)
        return sum(ahead(place - 1, before) for before in range(len(scheme[1][0])) for figure in range(base)
                   if read_on(scheme, place - 1, before, [figure]) == state)

    @lru_cache(maxsize=None)
    def behind(place, state, other_place, other):
        if place == length:
            return int(state == 0 and other == 0)
        return sum(behind(place + 1, read_on(scheme, place, state, [figure]),
                          other_place + 1, read_on(scheme, other_place, other, [figure])) for figure in range(base))

    return sum(
        ahead(at, state) * behind(at + width, read_on(scheme, at, state, window),
                                  at + len(written), read_on(scheme, at, state, written))
        for at in range(length - width + 1) for state in range(len(scheme[1][0])) for window, written in pairs)


def shortest_parting(scheme, other, most):
    """The length of the shortest number that is good by just one of two schemes, up to a length; else None."""
    for length in range(most + 1):
        for figures in all_numbers(scheme[0], length):
            if (slow_state(scheme, figures) == 0) != (slow_state(other, figures) == 0):
                return length
    return None


def renumbered(scheme, seed):
    """The same scheme, with its states but 0 called by other numbers."""
    states = len(scheme[1][0])
    called = [0] + sorted(range(1, states), key=lambda state: (state * 7 + seed * 5) % 13)
    back = [called.index(state) for state in range(states)]
    return (scheme[0], tuple(
        tuple(tuple(called[state] for state in table[back[row]]) for row in range(states)) for table in scheme[1]))


def counting(base, tables, states):
    """The state rises at the last turn alone, and is 0 only ahead of all and when it has gone round."""
    return (base, tuple(
        tuple((max(state, 1) if turn < tables - 1 else (max(state, 1) + 1) % states,) * base
              for state in range(states))
        for turn in range(tables)))


def is_of_tuples(scheme):
    """Whether a scheme is of tuples within tuples, and of whole numbers alone."""
    rows = [row for table in scheme[1] for row in table]
    tuples = [scheme, scheme[1]] + list(scheme[1]) + rows
    numbers = [scheme[0]] + [state for row in rows for state in row]
    return {value.__class__ for value in tuples} == {tuple} and {value.__class__ for value in numbers} == {int}
