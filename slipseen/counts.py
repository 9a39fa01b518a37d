"""How many numbers of a length are good, and how many of their slips are missed.

No number is written out: the ways that its reading can take are counted.
"""

from slipseen.schemes import START, check_scheme, spot_steps
from slipseen.search import ways_to_end
from slipseen.slips import WIDTHS, check_kind, ends_good, slip_steps


def good_count(scheme, length):
    check_scheme(scheme)

    def steps(spot):
        return spot_steps(scheme, spot)

    def ends(spot):
        return spot[1] == 0

    return ways_to_end(START, steps, ends, length)


def missed(scheme, kind, length):
    check_scheme(scheme)
    check_kind(kind)
    # The slip is one step over all the figures that it touches, each other figure is a step of its own.
    walked = length - WIDTHS[kind] + 1
    return ways_to_end((START, None), slip_steps(scheme, kind), ends_good, walked)
