"""What is made at the earliest, if nothing ended."""

from errands.books import check_aim, check_place, share_none


def made_next(book, layer_of):
    """The facts in no layer so far that errands make of which all that they need is in one."""
    ready = [errand for errand in book[1] if all([fact in layer_of for fact in errand[1]])]
    return sorted({fact for errand in ready for fact in errand[3] if fact not in layer_of})


def first_layers(book, state):
    """A dict from each fact that is in some layer to its first one."""
    layer_of = {fact: 0 for fact in state}
    layer = 1
    made = made_next(book, layer_of)
    while made:
        for fact in made:
            layer_of[fact] = layer
        layer += 1
        made = made_next(book, layer_of)
    return layer_of


def layers(book, state):
    """The rising list of tuples (fact, layer)."""
    check_place(book, state)
    return sorted(first_layers(book, state).items())


def hint(book, state, want):
    """How many errands each row that serves has at the least; None, if something that must hold is in no layer."""
    check_aim(book, state, want)
    must, bars = want
    layer_of = first_layers(book, state)
    if not all([fact in layer_of for fact in must]):
        return None
    greatest = max([layer_of[fact] for fact in must], default=0)
    if greatest == 0 and not share_none(bars, state):
        return 1
    return greatest
