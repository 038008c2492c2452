"""Books, states and wants: what is one, and what an errand does to a state."""

from errands.errors import NoBook, NoErrand, NoState, NoWant

MOST_LETTERS = 6
MOST_FACTS = 6
MOST_ERRANDS = 6
MOST_PRICE = 9


def share_none(one, other):
    """Whether two tuples of facts have nothing in common."""
    return not any([fact in other for fact in one])


def without(facts, others):
    """The facts that are not among the others, in their order."""
    return tuple([fact for fact in facts if fact not in others])


def joined(one, other):
    """The rising tuple of the facts of both."""
    return tuple(sorted(set(one) | set(other)))


def is_word(thing):
    # isalpha and islower would take letters beyond z, too.
    if not isinstance(thing, str) or not 1 <= len(thing) <= MOST_LETTERS:
        return False
    return all(["a" <= sign <= "z" for sign in thing])


def are_rising_words(thing):
    """Whether it is a rising tuple of words, none twice."""
    if not isinstance(thing, tuple) or not all([is_word(word) for word in thing]):
        return False
    return all([low < high for low, high in zip(thing, thing[1:])])


def are_facts(book_facts, thing):
    """Whether it is a rising tuple of these facts, none twice."""
    return are_rising_words(thing) and all([fact in book_facts for fact in thing])


def is_whole(thing, least, most):
    """Whether it is a whole number from least to most."""
    # Python takes True and False for whole numbers; the document does not.
    if not isinstance(thing, int) or isinstance(thing, bool):
        return False
    return least <= thing <= most


def is_errand(book_facts, thing):
    if not isinstance(thing, tuple) or len(thing) != 6:
        return False
    name, needs, bars, makes, ends, price = thing
    if not is_word(name) or not is_whole(price, 0, MOST_PRICE):
        return False
    if not all([are_facts(book_facts, facts) for facts in (needs, bars, makes, ends)]):
        return False
    return share_none(needs, bars) and share_none(makes, ends)


def is_book(thing):
    if not isinstance(thing, tuple) or len(thing) != 2:
        return False
    facts, errands = thing
    if not are_rising_words(facts) or len(facts) > MOST_FACTS:
        return False
    if not isinstance(errands, tuple) or len(errands) > MOST_ERRANDS:
        return False
    if not all([is_errand(facts, errand) for errand in errands]):
        return False
    return len({errand[0] for errand in errands}) == len(errands)


def is_want(book, thing):
    if not isinstance(thing, tuple) or len(thing) != 2:
        return False
    must, bars = thing
    return are_facts(book[0], must) and are_facts(book[0], bars) and share_none(must, bars)


def check_state(book, state):
    """Refuse with NoState what is no state of this book."""
    if not are_facts(book[0], state):
        raise NoState("a state is a rising tuple of the book's facts, none twice")


def check_want(book, want):
    """Refuse with NoWant what is no want of this book."""
    if not is_want(book, want):
        raise NoWant("a want is a tuple of two states with nothing in common")


def errand_called(book, name):
    """The errand of that name, or None; the name may be a thing of any kind."""
    if not isinstance(name, str):
        return None
    for errand in book[1]:
        if errand[0] == name:
            return errand
    return None


def fulfils(state, want):
    must, bars = want
    return all([fact in state for fact in must]) and share_none(bars, state)


def is_doable(errand, state):
    """Whether the errand can be done: what it needs and bars is like a want."""
    return fulfils(state, (errand[1], errand[2]))


def state_behind(errand, state):
    """The state behind an errand that can be done there."""
    makes, ends = errand[3], errand[4]
    return joined(without(state, ends), makes)


def checked(book):
    """The book; NoBook, where it is none."""
    if not is_book(book):
        raise NoBook("a book is a tuple of facts and errands, each as the document tells")
    return book


def check_place(book, state):
    """Refuse what is no book, then what is no state of it."""
    checked(book)
    check_state(book, state)


def check_aim(book, state, want):
    """Refuse what is no book, then what is no state, then what is no want of it."""
    check_place(book, state)
    check_want(book, want)


def can(book, state):
    """The list of the names of the errands that can be done, in order of the book."""
    check_place(book, state)
    return [errand[0] for errand in book[1] if is_doable(errand, state)]


def done(book, state, name):
    """The state behind the errand of that name."""
    check_place(book, state)
    errand = errand_called(book, name)
    if errand is None or not is_doable(errand, state):
        raise NoErrand("it is no name of an errand that can be done")
    return state_behind(errand, state)


def is_met(book, state, want):
    """Whether the state fulfils the want."""
    check_aim(book, state, want)
    return fulfils(state, want)
