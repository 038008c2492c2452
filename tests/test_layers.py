"""Layers and hints (points 1, 9)."""

import copy
import unittest

from errands.errors import NoBook, NoState, NoWant
from errands.layers import hint, layers
from tests.helper import (BAD_STATES, BAD_WANTS, DAY, EMPTY, check_order, check_wrong_inputs, counter, lively_cases,
                          model_far, odd_things, random_books, random_cases, subsets, wants_of)

TOAST = (("toast",), ())
# Each fact is made of the one ahead of it, the last one of two.
CHAIN = (("a", "b", "c", "d"), (("last", ("b", "c"), (), ("d",), ("b", "c"), 0), ("two", ("b",), (), ("c",), ("b",), 0),
                                ("one", ("a",), ("c",), ("b",), ("a",), 0)))


def model_layers(book, state):
    """The layers whole, one behind the other, until they stay; then each fact's first one."""
    whole = [set(state)]
    for _ in range(len(book[0]) + 1):
        made = [set(makes) for _, needs, _, makes, _, _ in book[1] if set(needs) <= whole[-1]]
        whole.append(whole[-1].union(*made))
    return [(fact, min(at for at, facts in enumerate(whole) if fact in facts))
            for fact in sorted(whole[-1])]


def model_hint(book, state, want):
    must, bars = want
    known = dict(model_layers(book, state))
    if not set(must) <= set(known):
        return None
    number = max([known[fact] for fact in must] + [0])
    return 1 if number == 0 and set(bars) & set(state) else number


class Layers(unittest.TestCase):
    def test_a_day(self):
        self.assertEqual(layers(DAY, ("coins",)), [("bread", 1), ("coins", 0), ("dirty", 2), ("hot", 1), ("toast", 2)])
        self.assertEqual(layers(DAY, ()), [("hot", 1)])

    def test_a_chain(self):
        self.assertEqual(layers(CHAIN, ("a",)), [("a", 0), ("b", 1), ("c", 2), ("d", 3)])
        self.assertEqual(layers(CHAIN, ("b",)), [("b", 0), ("c", 1), ("d", 2)])
        self.assertEqual(layers(CHAIN, ("c",)), [("c", 0)])
        self.assertEqual(layers(CHAIN, ()), [])

    def test_whatever_they_bar(self):
        book = (("a", "b"), (("go", (), ("a",), ("b",), ("a",), 0),))
        self.assertEqual(layers(book, ("a",)), [("a", 0), ("b", 1)])

    def test_what_is_made_in_a_layer_serves_only_the_next(self):
        for errands in (CHAIN[1], CHAIN[1][::-1]):
            self.assertEqual(layers((CHAIN[0], errands), ("a",)), [("a", 0), ("b", 1), ("c", 2), ("d", 3)])

    def test_six_layers(self):
        facts = tuple("abcdef")
        errands = tuple([("make" + fact, facts[:at][-1:], (), (fact,), (), 0) for at, fact in enumerate(facts)])
        self.assertEqual(layers((facts, errands), ()), list(zip(facts, range(1, 7))))
        self.assertEqual(hint((facts, errands), (), (("f",), ())), 6)

    def test_the_empty_book(self):
        self.assertEqual(layers(EMPTY, ()), [])
        self.assertEqual(layers((("a", "b"), ()), ("b",)), [("b", 0)])

    def test_many_books(self):
        for book in random_books(71, 2):
            for state in subsets(book[0]):
                self.assertEqual(layers(book, state), model_layers(book, state), (book, state))
        for book, state, _ in lively_cases(72, 200):
            self.assertEqual(layers(book, state), model_layers(book, state), (book, state))


class Hint(unittest.TestCase):
    def test_a_day(self):
        self.assertEqual(hint(DAY, ("coins",), TOAST), 2)
        self.assertEqual(hint(DAY, ("coins",), (("bread", "coins"), ())), 1)
        self.assertEqual(hint(DAY, ("coins",), (("coins",), ())), 0)

    def test_something_that_must_hold_is_in_no_layer(self):
        self.assertIsNone(hint(DAY, (), TOAST))
        self.assertIsNone(hint(DAY, ("dirty",), (("bread", "dirty", "hot"), ())))
        self.assertIsNone(hint(DAY, ("hot",), (("bread",), ("hot",))))

    def test_something_holds_that_is_barred(self):
        self.assertEqual(hint(DAY, ("coins", "hot"), (("coins",), ("hot",))), 1)
        self.assertEqual(hint(DAY, ("hot",), ((), ("hot",))), 1)
        self.assertEqual(hint(DAY, ("coins", "hot"), ((), ("coins", "hot"))), 1)
        self.assertEqual(hint(DAY, ("toast",), ((), ("toast",))), 1)
        self.assertEqual(hint(DAY, ("coins", "hot"), (("toast",), ("hot",))), 2)

    def test_what_is_barred_and_does_not_hold(self):
        self.assertEqual(hint(DAY, ("coins",), (("coins",), ("hot",))), 0)
        self.assertEqual(hint(DAY, ("coins",), ((), ("bread", "hot"))), 0)

    def test_a_want_of_nothing(self):
        self.assertEqual(hint(DAY, ("coins",), EMPTY), 0)
        self.assertEqual(hint(EMPTY, (), EMPTY), 0)

    def test_every_want_of_some_books(self):
        for book, state, _ in random_cases(73, 1, 1) + lively_cases(74, 10):
            for want in wants_of(book[0]):
                self.assertEqual(hint(book, state, want), model_hint(book, state, want), (book, state, want))

    def test_no_row_that_serves_is_shorter(self):
        none, some = 0, 0
        for book, state, want in random_cases(75, 3, 3) + lively_cases(76, 300):
            told, number = hint(book, state, want), model_far(book, state, want)
            if told is None:
                none += 1
                self.assertIsNone(number, (book, state, want))
            elif number is not None:
                some += told > 0
                self.assertLessEqual(told, number, (book, state, want))
        self.assertGreater(min(none, some), 50)

    def test_a_row_may_be_longer(self):
        book = counter(6, 0)
        self.assertEqual(hint(book, (), (book[0], ())), 6)


class Refusals(unittest.TestCase):
    def test_wrong_inputs(self):
        book = (DAY, odd_things(), NoBook)
        state = (("coins",), odd_things() + list(BAD_STATES), NoState)
        check_wrong_inputs(self, layers, [book, state])
        check_wrong_inputs(self, hint, [book, state, (TOAST, odd_things() + list(BAD_WANTS), NoWant)])

    def test_the_first_named_refusal_comes(self):
        book = (DAY, None, NoBook)
        state = (("coins",), ("none",), NoState)
        check_order(self, layers, [book, state])
        check_order(self, hint, [book, state, (TOAST, (("hot",), ("hot",)), NoWant)])


class NothingIsKept(unittest.TestCase):
    def test_lists_are_new_ones(self):
        first = layers(DAY, ())
        first.append("more")
        self.assertEqual(layers(DAY, ()), [("hot", 1)])

    def test_equal_things_give_equal_answers(self):
        for book, state, want in random_cases(77, 1, 1):
            other = copy.deepcopy(book)
            self.assertEqual(layers(book, state), layers(other, state))
            self.assertEqual(hint(book, state, want), hint(other, state, want))


if __name__ == "__main__":
    unittest.main()
