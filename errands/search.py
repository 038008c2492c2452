"""The states that are reached from a state, and the shortest rows to a want."""

from errands.books import check_aim, check_place, fulfils, is_doable, is_whole, state_behind
from errands.errors import NoNumber

MOST_STEPS = 64


def steps_from(book, state):
    """A list of tuples: each errand that can be done there, and the state behind it."""
    return [(errand, state_behind(errand, state)) for errand in book[1] if is_doable(errand, state)]


def first_rows(book, state):
    """A dict from each state that is reached to a shortest row that leads there, the nearest ones first."""
    rows = {state: []}
    ring = [state]
    while ring:
        next_ring = []
        for at in ring:
            for errand, behind in steps_from(book, at):
                if behind not in rows:
                    rows[behind] = rows[at] + [errand[0]]
                    next_ring.append(behind)
        ring = next_ring
    return rows


def row_counts(book, state, rows):
    """A dict from each state of first_rows to how many rows lead there that are as short as its own."""
    counts = {at: 0 for at in rows}
    counts[state] = 1
    # The nearest states come first, so each count is whole before it is handed on.
    for at in rows:
        for errand, behind in steps_from(book, at):
            if len(rows[behind]) == len(rows[at]) + 1:
                counts[behind] += counts[at]
    return counts


def nearest(rows, want):
    """The list of those states of first_rows that fulfil the want by the fewest errands."""
    fitting = [at for at in rows if fulfils(at, want)]
    return [at for at in fitting if len(rows[at]) == len(rows[fitting[0]])]


def check_most(most):
    """Refuse with NoNumber what is no number of errands that may be told."""
    if not is_whole(most, 0, MOST_STEPS):
        raise NoNumber("it is no whole number from 0 to 64")


def reached(book, state):
    """The rising list of the states that are reached."""
    check_place(book, state)
    return sorted(first_rows(book, state))


def within(book, state, most):
    """The rising list of the states that are reached by no more errands than told."""
    check_place(book, state)
    check_most(most)
    rows = first_rows(book, state)
    return sorted([at for at in rows if len(rows[at]) <= most])


def shortest(book, state, want):
    """A row that serves and has the fewest errands, or None."""
    check_aim(book, state, want)
    rows = first_rows(book, state)
    goals = nearest(rows, want)
    return rows[goals[0]] if goals else None


def far(book, state, want):
    """How many errands a shortest row has, or None."""
    row = shortest(book, state, want)
    return None if row is None else len(row)


def shortest_rows(book, state, want):
    """How many shortest rows there are; 0, if none serves."""
    check_aim(book, state, want)
    rows = first_rows(book, state)
    counts = row_counts(book, state, rows)
    return sum([counts[at] for at in nearest(rows, want)])
