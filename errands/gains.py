"""What a state is worth, and the most that is reached within some errands."""

from errands.books import check_place, is_whole
from errands.errors import NoFacts
from errands.search import check_most, first_rows

MOST_GAIN = 99


def is_gain(book, thing):
    if not isinstance(thing, tuple) or len(thing) != 2:
        return False
    fact, number = thing
    return isinstance(fact, str) and fact in book[0] and is_whole(number, -MOST_GAIN, MOST_GAIN)


def check_gains(book, gains):
    """Refuse with NoFacts what are no gains over the book's facts."""
    if not isinstance(gains, tuple) or not all([is_gain(book, gain) for gain in gains]):
        raise NoFacts("gains are a tuple of tuples of a fact and a number from -99 to 99")
    if len({fact for fact, number in gains}) < len(gains):
        raise NoFacts("gains have no fact twice")


def worth(state, gains):
    """The numbers of the facts that hold, together."""
    return sum([number for fact, number in gains if fact in state])


def best_reached(book, state, gains, most):
    """A tuple: the state worth most of those reached by no more errands than told, and a shortest row there."""
    check_place(book, state)
    check_gains(book, gains)
    check_most(most)
    rows = first_rows(book, state)
    near = [at for at in rows if len(rows[at]) <= most]
    # Of several max takes the first one, and the nearest states come first.
    best = max(near, key=lambda at: worth(at, gains))
    return (best, rows[best])


def best_gain(book, state, gains, most):
    """The most that a state is worth that is reached by no more errands than told."""
    return worth(best_reached(book, state, gains, most)[0], gains)


def best_row(book, state, gains, most):
    """A shortest row to a state that is worth that."""
    return best_reached(book, state, gains, most)[1]
