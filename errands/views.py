"""Other books: seen by some facts, with an errand more or fewer, turned back."""

from errands.books import MOST_ERRANDS, are_facts, checked, errand_called, is_errand, joined, without
from errands.errors import NoErrand, NoFacts


def seen_errand(errand, facts):
    """The errand with these facts alone."""
    parts = [tuple([fact for fact in part if fact in facts]) for part in errand[1:5]]
    return (errand[0],) + tuple(parts) + (errand[5],)


def seen(book, facts):
    """The book with these facts alone, in all its errands, too."""
    checked(book)
    if not are_facts(book[0], facts):
        raise NoFacts("it is no rising tuple of the book's facts")
    return (facts, tuple([seen_errand(errand, facts) for errand in book[1]]))


def with_errand(book, errand):
    """The book with the errand in the place of the one with its name, else behind all others."""
    checked(book)
    if not is_errand(book[0], errand):
        raise NoErrand("it is no errand over the book's facts")
    name = errand[0]
    if errand_called(book, name) is not None:
        return (book[0], tuple([errand if other[0] == name else other for other in book[1]]))
    if len(book[1]) == MOST_ERRANDS:
        raise NoErrand("there would be more than 6 errands")
    return (book[0], book[1] + (errand,))


def without_errand(book, name):
    """The book without the errand of that name."""
    checked(book)
    if errand_called(book, name) is None:
        raise NoErrand("it is no name of an errand")
    return (book[0], tuple([errand for errand in book[1] if errand[0] != name]))


def tells_what_held(errand):
    """Whether the errand needs all that it ends, and bars all that it makes."""
    needs, bars, makes, ends = errand[1:5]
    return without(ends, needs) == () and without(makes, bars) == ()


def back_errand(errand):
    """The errand that leads back from what this one made to what was there."""
    name, needs, bars, makes, ends, price = errand
    needs_back = joined(without(needs, ends), makes)
    bars_back = joined(without(bars, makes), ends)
    return (name, needs_back, bars_back, ends, makes, price)


def back_book(book):
    """The book turned back, or None, where an errand does not tell what held before."""
    checked(book)
    if not all([tells_what_held(errand) for errand in book[1]]):
        return None
    return (book[0], tuple([back_errand(errand) for errand in book[1]]))
