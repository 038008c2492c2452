"""Other words for facts change nothing but the words (points 2, 6, 8, 9, 10)."""

import random
import unittest

from errands.always import idle, must_do, must_hold
from errands.books import can, checked, is_met
from errands.errors import NoWay
from errands.layers import hint, layers
from errands.pairs import apart
from errands.prices import least_price
from errands.search import far, reached, shortest_rows, within
from tests.helper import DAY, check_refused, lively_cases, random_cases, random_words


def other_words(chance, facts):
    """A dict from each fact to another word, in no order, unlike ones for unlike ones."""
    return dict(zip(facts, random_words(chance, len(facts))))


def facts_in(words, facts):
    return tuple(sorted([words[fact] for fact in facts]))


def book_in(words, book):
    errands = [(errand[0], *[facts_in(words, facts) for facts in errand[1:5]], errand[5]) for errand in book[1]]
    return (facts_in(words, book[0]), tuple(errands))


def want_in(words, want):
    return (facts_in(words, want[0]), facts_in(words, want[1]))


def states_in(words, states):
    return sorted([facts_in(words, state) for state in states])


class OtherWords(unittest.TestCase):
    def cases(self, seed):
        """Tuples (book, state, want, the other words, book, state and want in these)."""
        chance = random.Random(seed)
        cases = []
        for book, state, want in random_cases(seed, 2, 2) + lively_cases(seed, 150):
            words = other_words(chance, book[0])
            cases.append((book, state, want, words, book_in(words, book), facts_in(words, state),
                          want_in(words, want)))
        return cases

    def test_the_order_of_the_words_is_another_one(self):
        turned = 0
        for book, _, _, words, other, _, _ in self.cases(161):
            self.assertEqual(checked(other), other)
            turned += [words[fact] for fact in book[0]] != list(other[0])
        self.assertGreater(turned, 100)

    def test_what_can_be_done_and_what_is_met(self):
        for book, state, want, _, other, other_state, other_want in self.cases(162):
            self.assertEqual(can(other, other_state), can(book, state))
            self.assertEqual(is_met(other, other_state, other_want), is_met(book, state, want))

    def test_what_is_reached(self):
        for book, state, _, words, other, other_state, _ in self.cases(163):
            self.assertEqual(reached(other, other_state), states_in(words, reached(book, state)))
            for most in (0, 1, 2, 5):
                self.assertEqual(within(other, other_state, most), states_in(words, within(book, state, most)))

    def test_how_far_how_dear_and_how_many(self):
        for function in (far, least_price, shortest_rows, hint):
            for book, state, want, _, other, other_state, other_want in self.cases(164):
                self.assertEqual(function(other, other_state, other_want), function(book, state, want),
                                 (function.__name__, book, state, want))

    def test_pairs_that_keep_apart(self):
        for book, state, _, words, other, other_state, _ in self.cases(165):
            pairs = sorted([tuple(sorted((words[low], words[high]))) for low, high in apart(book, state)])
            self.assertEqual(apart(other, other_state), pairs, (book, state))

    def test_layers(self):
        for book, state, _, words, other, other_state, _ in self.cases(166):
            told = sorted([(words[fact], layer) for fact, layer in layers(book, state)])
            self.assertEqual(layers(other, other_state), told, (book, state))

    def test_what_must_be(self):
        some, none = 0, 0
        for book, state, want, words, other, other_state, other_want in self.cases(167):
            self.assertEqual(idle(other, other_state), idle(book, state))
            if far(book, state, want) is None:
                none += 1
                check_refused(self, NoWay, must_do, other, other_state, other_want)
                check_refused(self, NoWay, must_hold, other, other_state, other_want)
            else:
                some += 1
                self.assertEqual(must_do(other, other_state, other_want), must_do(book, state, want))
                self.assertEqual(must_hold(other, other_state, other_want),
                                 sorted([words[fact] for fact in must_hold(book, state, want)]), (book, state, want))
        self.assertGreater(min(some, none), 30)

    def test_a_day_in_other_words(self):
        words = {"bread": "z", "coins": "y", "dirty": "x", "hot": "w", "toast": "v"}
        other = book_in(words, DAY)
        self.assertEqual(reached(other, ("x",)), [(), ("w",), ("w", "x"), ("x",)])
        self.assertEqual(must_hold(other, ("w", "y"), (("w",), ("y",))), ["w", "y", "z"])
        self.assertEqual(apart(other, ("y",)), [("v", "y"), ("v", "z"), ("x", "y"), ("x", "z"), ("y", "z")])


if __name__ == "__main__":
    unittest.main()
