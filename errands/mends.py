"""Rows trimmed, and rows mended for another state or want."""

from errands.books import check_aim
from errands.errors import NoRow
from errands.rows import asked_by, errands_of, serves
from errands.search import first_rows, nearest


def trimmed_once(book, state, want, row):
    """The row, behind one walk from its last errand to its first, each left out if what is left then serves."""
    left = list(row)
    for at in range(len(row) - 1, -1, -1):
        shorter = left[:at] + left[at + 1:]
        if serves(book, state, want, shorter):
            left = shorter
    return left


def trimmed(book, state, want, row):
    """What is left of a row that serves, when none of its errands can be left out alone."""
    if not serves(book, state, want, row):
        raise NoRow(None)
    left = list(row)
    shorter = trimmed_once(book, state, want, left)
    while len(shorter) < len(left):
        left = shorter
        shorter = trimmed_once(book, state, want, left)
    return left


def wants_of_rests(errands, want):
    """The wants that the rests of the row ask for, the shortest rest first, up to the longest that ever serves."""
    wants = [want]
    for errand in reversed(errands):
        ahead = asked_by(errand, wants[-1])
        if ahead is None:
            return wants
        wants.append(ahead)
    return wants


def mended(book, state, want, row):
    """The fewest new errands, and the shortest rest of the row that serves behind so many; or None."""
    check_aim(book, state, want)
    wants = wants_of_rests(errands_of(book, row), want)
    rows = first_rows(book, state)
    fewest = None
    rest = []
    for many, ahead in enumerate(wants):
        goals = nearest(rows, ahead)
        # The shortest rests come first, so a longer one counts only with fewer new errands.
        if goals and (fewest is None or len(rows[goals[0]]) < len(fewest)):
            fewest = rows[goals[0]]
            rest = row[len(row) - many:]
    return None if fewest is None else fewest + rest
