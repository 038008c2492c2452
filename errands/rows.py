"""Rows of errands: where they lead, whether they serve, what they ask and cost."""

from errands.books import check_aim, check_place, check_want, checked, errand_called
from errands.books import fulfils, is_doable, joined, share_none, state_behind, without
from errands.errors import NoRow

MOST_IN_ROW = 64


def is_row(book, thing):
    if not isinstance(thing, list) or len(thing) > MOST_IN_ROW:
        return False
    return all([errand_called(book, name) is not None for name in thing])


def errands_of(book, row):
    """The list of the errands that the row names; NoRow, where it is no row."""
    if not is_row(book, row):
        raise NoRow(None)
    return [errand_called(book, name) for name in row]


def states_through(errands, state):
    """The states from this one on, up to the first errand that can't be done."""
    states = [state]
    for errand in errands:
        if not is_doable(errand, states[-1]):
            return states
        states.append(state_behind(errand, states[-1]))
    return states


def asked_by(errand, want):
    """The want that a state must fulfil so that behind the errand it fulfils this one, or None."""
    needs, bars, makes, ends = errand[1:5]
    must, barred = want
    if not share_none(makes, barred) or not share_none(ends, must):
        return None
    must_ahead = joined(needs, without(must, makes))
    barred_ahead = joined(bars, without(barred, ends))
    if not share_none(must_ahead, barred_ahead):
        return None
    return (must_ahead, barred_ahead)


def leads(book, state, row):
    """The list of the states through which the row leads, the given one first."""
    check_place(book, state)
    errands = errands_of(book, row)
    states = states_through(errands, state)
    if len(states) <= len(errands):
        raise NoRow(len(states) - 1)
    return states


def serves(book, state, want, row):
    """Whether the row can be done, and the state behind it fulfils the want."""
    check_aim(book, state, want)
    errands = errands_of(book, row)
    states = states_through(errands, state)
    return len(states) > len(errands) and fulfils(states[-1], want)


def asked(book, want, row):
    """The want that a state must fulfil so that the row serves from there, or None."""
    checked(book)
    check_want(book, want)
    want_ahead = want
    for errand in reversed(errands_of(book, row)):
        want_ahead = asked_by(errand, want_ahead)
        if want_ahead is None:
            return None
    return want_ahead


def price(book, row):
    """The price of all the errands of the row together."""
    checked(book)
    return sum([errand[5] for errand in errands_of(book, row)])
