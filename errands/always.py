"""What every row has that serves a want, and errands that can never be done."""

from errands.books import check_aim, check_place, fulfils, is_doable
from errands.errors import NoWay
from errands.search import first_rows


def is_served(book, state, want):
    """Whether some row serves the want."""
    return any([fulfils(at, want) for at in first_rows(book, state)])


def check_served(book, state, want):
    """Refuse what is no book, no state or no want, then with NoWay a want that no row serves."""
    check_aim(book, state, want)
    if not is_served(book, state, want):
        raise NoWay("no row serves the want")


def must_be_done(book, state, want, name):
    """Whether no row without the errand of that name serves."""
    others = tuple([errand for errand in book[1] if errand[0] != name])
    return not is_served((book[0], others), state, want)


def must_come(book, state, want, fact):
    """Whether no row serves on which the fact never holds."""
    # What does not hold at first comes by an errand that makes it alone: without these it never holds.
    others = tuple([errand for errand in book[1] if fact not in errand[3]])
    return fact in state or not is_served((book[0], others), state, want)


def must_do(book, state, want):
    """The list of the names of the errands that every row has that serves, in order of the book."""
    check_served(book, state, want)
    return [errand[0] for errand in book[1] if must_be_done(book, state, want, errand[0])]


def must_hold(book, state, want):
    """The rising list of the facts that hold somewhere on every row that serves."""
    check_served(book, state, want)
    return [fact for fact in book[0] if must_come(book, state, want, fact)]


def idle(book, state):
    """The list of the names of the errands that can be done at no state that is reached, in order of the book."""
    check_place(book, state)
    states = list(first_rows(book, state))
    return [errand[0] for errand in book[1] if not any([is_doable(errand, at) for at in states])]
