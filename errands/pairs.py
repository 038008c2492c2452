"""Pairs of facts that never come together in a state that is reached."""

from errands.books import check_place, share_none, without
from errands.errors import NoPaper


def all_pairs(facts):
    """Every pair of the facts, each fact with itself too, in order, the lesser fact first."""
    return [(low, high) for at, low in enumerate(facts) for high in facts[at:]]


def stands_in(pair, facts):
    return pair[0] in facts and pair[1] in facts


def brings(errand, pair, pairs):
    """Whether the errand brings the pair together, where none of the pairs holds."""
    needs, bars, makes, ends = errand[1:5]
    unmade = without(pair, makes)
    if len(unmade) == 2 or not share_none(pair, ends) or not share_none(unmade, bars):
        return False
    # What the errand does not make of the pair must hold ahead of it, beside all that it needs.
    ahead = needs + unmade
    return not any([stands_in(other, ahead) for other in pairs])


def is_brought(book, pair, pairs):
    """Whether some errand brings the pair together, where none of the pairs holds."""
    return any([brings(errand, pair, pairs) for errand in book[1]])


def is_pair(book, thing):
    if not isinstance(thing, tuple) or len(thing) != 2:
        return False
    return all([isinstance(fact, str) and fact in book[0] for fact in thing])


def apart(book, state):
    """The pairs of the greatest list that keeps apart from the state, in order, the lesser fact first."""
    check_place(book, state)
    pairs = [pair for pair in all_pairs(book[0]) if not stands_in(pair, state)]
    # With fewer pairs only more are brought together: what falls here is in no list that keeps apart.
    kept = [pair for pair in pairs if not is_brought(book, pair, pairs)]
    while kept != pairs:
        pairs = kept
        kept = [pair for pair in pairs if not is_brought(book, pair, pairs)]
    return kept


def keeps_apart(book, state, pairs):
    """Whether the list of pairs keeps apart from the state."""
    check_place(book, state)
    if not isinstance(pairs, list) or not all([is_pair(book, pair) for pair in pairs]):
        raise NoPaper("it is no list of tuples of two facts")
    # However often a pair stands there, and whichever way about, once is enough.
    unlike = sorted({tuple(sorted(pair)) for pair in pairs})
    return not any([stands_in(pair, state) or is_brought(book, pair, unlike) for pair in unlike])
