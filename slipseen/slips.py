"""The kinds of slips, the slips of a number, and the slips that a scheme doesn't see.

A slip touches a window, some neighbours of a number, and writes other figures in their place.
"""

from slipseen.errors import NoKind
from slipseen.schemes import START, check_figures, check_scheme, moved
from slipseen.search import shortest

WIDTHS = {"one": 1, "swap": 2, "twin": 2, "jump": 3, "out": 1}


def check_kind(kind):
    if kind not in WIDTHS:
        raise NoKind("a kind of slips is one, swap, twin, jump or out")


def writings(kind, window, base):
    if kind == "out":
        return [[]]
    first = window[0]
    last = window[-1]
    others = [figure for figure in range(base) if figure != first]
    if kind == "one":
        return [[figure] for figure in others]
    if kind == "twin":
        return [[figure, figure] for figure in others if first == last]
    if first == last:
        return []
    return [[last] + window[1:-1] + [first]]


def slips(scheme, kind, figures):
    check_scheme(scheme)
    check_kind(kind)
    check_figures(scheme, figures)
    width = WIDTHS[kind]
    told = []
    for place in range(len(figures) - width + 1):
        behind = place + width
        for written in writings(kind, figures[place:behind], scheme[0]):
            told.append(figures[:place] + written + figures[behind:])
    return told


def all_windows(base, width):
    windows = [[]]
    while len(windows[0]) < width:
        longer = []
        for window in windows:
            longer.extend([window + [figure] for figure in range(base)])
        windows = longer
    return windows


def slipped_pairs(kind, base):
    pairs = []
    for window in all_windows(base, WIDTHS[kind]):
        pairs.extend([(window, written) for written in writings(kind, window, base)])
    return pairs


def ends_good(node):
    return node[1] is not None and node[0][1] == 0 and node[1][1] == 0


def pair_steps(tables, spot, other, pairs):
    return [(pair, (moved(tables, spot, pair[0]), moved(tables, other, pair[1]))) for pair in pairs]


def joined(pairs):
    number = []
    written = []
    for pair in pairs:
        number.extend(pair[0])
        written.extend(pair[1])
    return (number, written)


# Two readings go side by side, of the number and of what is written; a node holds their spots.
# Ahead of the slip they are one reading and the second spot is None. There are few nodes, so a
# search through all of them speaks of numbers of any length. Every way to an end holds just one
# slip, and all slips of a kind are of one width: a way of fewest steps is a shortest number.
def slip_steps(scheme, kind):
    tables = scheme[1]
    kept = [([figure], [figure]) for figure in range(scheme[0])]
    slipped = slipped_pairs(kind, scheme[0])

    def steps(node):
        if node[1] is not None:
            return pair_steps(tables, node[0], node[1], kept)
        ahead = [(pair, (moved(tables, node[0], pair[0]), None)) for pair in kept]
        return ahead + pair_steps(tables, node[0], node[0], slipped)

    return steps


def unseen(scheme, kind):
    check_scheme(scheme)
    check_kind(kind)
    pairs = shortest((START, None), slip_steps(scheme, kind), ends_good)
    if pairs is None:
        return None
    return joined(pairs)
