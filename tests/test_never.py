"""What never comes, told in several ways (points 6, 8, 9, 10)."""

import itertools
import unittest

from errands.always import idle, must_do, must_hold
from errands.errors import NoWay
from errands.layers import hint
from errands.pairs import apart
from errands.prices import cheapest, least_price, price_paper
from errands.search import far, reached, shortest, shortest_rows
from tests.helper import DAY, check_refused, lively_cases, random_cases


def makers(book, fact):
    """The names of the errands that make the fact."""
    return [errand[0] for errand in book[1] if fact in errand[3]]


class Never(unittest.TestCase):
    def never_served(self, book, state, want):
        for function in (far, shortest, least_price, cheapest, price_paper):
            self.assertIsNone(function(book, state, want), (function.__name__, book, state, want))
        self.assertEqual(shortest_rows(book, state, want), 0)
        check_refused(self, NoWay, must_do, book, state, want)
        check_refused(self, NoWay, must_hold, book, state, want)

    def cases(self, seed):
        return random_cases(seed, 2, 2) + lively_cases(seed, 150)

    def test_a_day(self):
        self.assertIn(("coins", "toast"), apart(DAY, ("coins",)))
        self.never_served(DAY, ("coins",), (("coins", "toast"), ()))
        self.assertIn(("toast", "toast"), apart(DAY, ("dirty",)))
        self.never_served(DAY, ("dirty",), (("toast",), ()))

    def test_what_keeps_apart_is_never_wanted_together(self):
        one, two = 0, 0
        for book, state, want in self.cases(171):
            for low, high in apart(book, state):
                must = tuple(sorted({low, high}))
                one += low == high
                two += low != high
                self.never_served(book, state, (must, ()))
                if not {low, high} & set(want[1]):
                    self.never_served(book, state, (tuple(sorted(set(must) | set(want[0]))), want[1]))
        self.assertGreater(min(one, two), 100)

    def test_of_a_want_that_is_served_no_two_facts_keep_apart(self):
        some = 0
        for book, state, want in self.cases(172):
            if far(book, state, want) is not None:
                pairs = apart(book, state)
                for pair in itertools.combinations_with_replacement(want[0], 2):
                    some += 1
                    self.assertNotIn(pair, pairs, (book, state, want))
        self.assertGreater(some, 100)

    def test_what_idle_errands_alone_make_is_never_made(self):
        some = 0
        for book, state, _ in self.cases(173):
            idle_names = idle(book, state)
            for fact in book[0]:
                if fact not in state and makers(book, fact) and set(makers(book, fact)) <= set(idle_names):
                    some += 1
                    self.never_served(book, state, ((fact,), ()))
                    self.assertFalse([at for at in reached(book, state) if fact in at], (book, state, fact))
        self.assertGreater(some, 50)

    def test_where_the_hint_is_none(self):
        none = 0
        for book, state, want in self.cases(174):
            if hint(book, state, want) is None:
                none += 1
                self.never_served(book, state, want)
        self.assertGreater(none, 50)

    def test_a_fact_that_must_hold_and_is_made_by_one_errand_alone(self):
        some = 0
        for book, state, want in self.cases(175):
            if far(book, state, want) is not None:
                names = must_do(book, state, want)
                for fact in must_hold(book, state, want):
                    if fact not in state and len(makers(book, fact)) == 1:
                        some += 1
                        self.assertIn(makers(book, fact)[0], names, (book, state, want, fact))
        self.assertGreater(some, 50)


if __name__ == "__main__":
    unittest.main()
