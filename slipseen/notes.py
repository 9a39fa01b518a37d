"""Schemes written as texts, and texts read as schemes."""

from slipseen.errors import NoNote, NoScheme
from slipseen.schemes import MOST_STATES, check_scheme


def line_of(numbers):
    return " ".join([str(number) for number in numbers])


def shown(scheme):
    check_scheme(scheme)
    tables = scheme[1]
    lines = [line_of([scheme[0], len(tables[0]), len(tables)])]
    for table in tables:
        lines.extend([line_of(row) for row in table])
    return "\n".join(lines)


# No number of a note is greater than the most states. A word is looked up among those few, and not
# worked out, so that one with a sign, a needless 0 or figures without end is a wrong word like any other.
def numbers_by_word():
    return dict([(str(number), number) for number in range(MOST_STATES + 1)])


def numbers_of(line, known):
    words = line.split(" ")
    if not all([word in known for word in words]):
        raise NoNote("a line of a note has numbers with a blank between two")
    return tuple([known[word] for word in words])


def cut(rows, states):
    return tuple([tuple(rows[at:at + states]) for at in range(0, len(rows), states)])


def read(text):
    known = numbers_by_word()
    lines = [numbers_of(line, known) for line in text.split("\n")]
    heading = lines[0]
    rows = lines[1:]
    if len(heading) != 3 or len(rows) == 0 or len(rows) != heading[1] * heading[2]:
        raise NoNote("a note begins with a base, and how many states and tables there are, and has all their rows")
    scheme = (heading[0], cut(rows, heading[1]))
    try:
        check_scheme(scheme)
    except NoScheme:
        raise NoNote("what the note tells is no scheme") from None
    return scheme
