"""Errands that go side by side, and the rounds of a row."""

from errands.books import checked, errand_called, share_none
from errands.errors import NoErrand
from errands.rows import errands_of


def leaves_be(one, other):
    """Whether an errand neither makes nor ends what the other one needs or bars, nor makes what that one ends."""
    makes, ends = one[3:5]
    needs, bars = other[1:3]
    return share_none(makes + ends, needs + bars) and share_none(makes, other[4])


def go_beside(one, other):
    """Whether the two errands, or one and itself, go side by side."""
    return leaves_be(one, other) and leaves_be(other, one)


def beside(book, one, other):
    """Whether the errands of these two names go side by side."""
    checked(book)
    first = errand_called(book, one)
    second = errand_called(book, other)
    if first is None or second is None:
        raise NoErrand("it is no name of an errand")
    return go_beside(first, second)


def earliest_round(parts, errand):
    """The place behind the last of the rounds so far that has an errand with which this one doesn't go."""
    place = 0
    for at, part in enumerate(parts):
        if not all([go_beside(errand, other) for other in part]):
            place = at + 1
    return place


def rounds(book, row):
    """The list of the rounds of the row, lists of names in the order of the row."""
    checked(book)
    parts = []
    for errand in errands_of(book, row):
        place = earliest_round(parts, errand)
        if place == len(parts):
            parts.append([])
        parts[place].append(errand)
    return [[errand[0] for errand in part] for part in parts]
