"""The least price of a row to a want, and papers that show that none is cheaper."""

from errands.books import are_facts, check_aim, fulfils, is_whole
from errands.errors import NoPaper
from errands.search import first_rows, steps_from

MOST_NUMBER = 1000000


def way_by_step(steps, ways):
    """The cheapest way by one of the steps and the way from behind it; None, if there is none."""
    best = None
    for errand, behind in steps:
        if behind in ways:
            cost = errand[5] + ways[behind][0]
            if best is None or cost < best[0]:
                best = (cost, [errand[0]] + ways[behind][1])
    return best


def better_ways(steps, ways):
    """The ways, each one put for a cheaper one where a single step tells it."""
    bettered = dict(ways)
    for at in steps:
        way = way_by_step(steps[at], bettered)
        # Only what is cheaper takes a way's place: so errands of price 0 never lead a row in a ring.
        if way is not None and (at not in bettered or way[0] < bettered[at][0]):
            bettered[at] = way
    return bettered


def cheapest_ways(book, states, want):
    """A dict from each state from which some row serves to a tuple: the least price, and a row of it.

    All that is reached from the states must be among them.
    """
    steps = {at: steps_from(book, at) for at in states}
    ways = {at: (0, []) for at in states if fulfils(at, want)}
    bettered = better_ways(steps, ways)
    while bettered != ways:
        ways = bettered
        bettered = better_ways(steps, ways)
    return ways


def least_price(book, state, want):
    """The price of the cheapest row that serves, or None."""
    check_aim(book, state, want)
    ways = cheapest_ways(book, list(first_rows(book, state)), want)
    return ways[state][0] if state in ways else None


def cheapest(book, state, want):
    """A row of least price that serves, or None."""
    check_aim(book, state, want)
    ways = cheapest_ways(book, list(first_rows(book, state)), want)
    return ways[state][1] if state in ways else None


def price_paper(book, state, want):
    """A paper that shows the least price, or None, where no row serves."""
    check_aim(book, state, want)
    states = sorted(first_rows(book, state))
    ways = cheapest_ways(book, states, want)
    if state not in ways:
        return None
    # Where no row serves, any number holds that is great enough not to press those ahead of it.
    return [(at, ways[at][0] if at in ways else MOST_NUMBER) for at in states]


def is_entry(book, thing):
    """Whether it is a tuple of a state and a number, as a paper has them."""
    if not isinstance(thing, tuple) or len(thing) != 2:
        return False
    return are_facts(book[0], thing[0]) and is_whole(thing[1], 0, MOST_NUMBER)


def numbers_of(book, paper):
    """A dict from each state of the paper to its number; NoPaper, where it is no paper."""
    if not isinstance(paper, list) or not all([is_entry(book, entry) for entry in paper]):
        raise NoPaper("a paper is a list of tuples of a state and a number from 0 to a million")
    numbers = {at: number for at, number in paper}
    if len(numbers) < len(paper):
        raise NoPaper("a paper has no state twice")
    return numbers


def is_borne_out(book, want, numbers, state):
    """Whether a state's number is no greater than the want and the numbers behind its errands let it be."""
    if fulfils(state, want) and numbers[state] > 0:
        return False
    for errand, behind in steps_from(book, state):
        if behind not in numbers or numbers[state] > numbers[behind] + errand[5]:
            return False
    return True


def shown_by(book, state, want, paper):
    """The number that the paper shows for the state."""
    check_aim(book, state, want)
    numbers = numbers_of(book, paper)
    if state not in numbers:
        raise NoPaper("the paper does not have the state")
    if not all([is_borne_out(book, want, numbers, at) for at in numbers]):
        raise NoPaper("a number of the paper is too great, or a state behind one of its states is missing")
    return numbers[state]
