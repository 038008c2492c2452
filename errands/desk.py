"""A desk at which errands are done, taken back, and done again."""

from errands.books import check_place, done, errand_called
from errands.errors import Nothing, NoWay
from errands.prices import cheapest
from errands.search import shortest


class Desk:
    """A book, and a state at hand."""

    def __init__(self, book, state):
        check_place(book, state)
        self.book = book
        # The first state, and the one behind each of the names.
        self.states = [state]
        self.names = []
        # What was taken back, the last one last.
        self.undone = []

    def state(self):
        """The state at hand."""
        return self.states[-1]

    def row(self):
        """The list of the errands done that were not taken back."""
        return list(self.names)

    def spent(self):
        """The price of the errands done that were not taken back."""
        # A desk may have done more errands than a row may have, so it is no row's price.
        return sum([errand_called(self.book, name)[5] for name in self.names])

    def carry_out(self, name):
        """Do an errand, and keep what was taken back."""
        self.states.append(done(self.book, self.state(), name))
        self.names.append(name)

    def do(self, name):
        """Do the errand of that name; what was taken back can't be done again then."""
        self.carry_out(name)
        self.undone.clear()

    def take_back(self):
        """Take back the last errand."""
        if not self.names:
            raise Nothing("no errand is there to be taken back")
        self.states.pop()
        self.undone.append(self.names.pop())

    def again(self):
        """Do again the errand that was taken back last."""
        if not self.undone:
            raise Nothing("no errand is there to be done again")
        self.carry_out(self.undone.pop())

    def next_to(self, want):
        """The first errand of a shortest row to the want; None, if it is fulfilled."""
        row = shortest(self.book, self.state(), want)
        if row is None:
            raise NoWay("no row serves the want")
        return row[0] if row else None

    def go_to(self, want, cheap):
        """Do a row of least price, or a shortest one, that serves the want; how many errands it has."""
        if cheap:
            row = cheapest(self.book, self.state(), want)
        else:
            row = shortest(self.book, self.state(), want)
        if row is None:
            raise NoWay("no row serves the want")
        for name in row:
            self.do(name)
        return len(row)

    def held_since(self, fact):
        """Behind how many errands the fact came that holds since then; None, if it does not hold, or is no fact."""
        if not isinstance(fact, str) or fact not in self.state():
            return None
        since = len(self.names)
        while since > 0 and fact in self.states[since - 1]:
            since -= 1
        return since
