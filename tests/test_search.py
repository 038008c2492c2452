"""Reached states and shortest rows (points 1, 4, 6)."""

import copy
import random
import unittest

from errands.errors import NoBook, NoNumber, NoState, NoWant
from errands.rows import leads, serves
from errands.search import far, reached, shortest, shortest_rows, within
from tests.helper import (BAD_STATES, BAD_WANTS, DAY, EMPTY, check_order, check_wrong_inputs, counter, lively_cases,
                          model_can, model_done, model_far, model_meets, model_rounds, model_serves, odd_things,
                          only, random_books, random_cases, random_row, subsets)

TOAST = (("toast",), ())
CLEAN_TOAST = (("toast",), ("dirty",))
# Two errands lead from nothing to a; b comes by way of it alone.
TWINS = (("a", "b"), (("one", (), ("a",), ("a",), (), 1), ("two", (), (), ("a",), (), 2),
                      ("three", ("a",), (), ("b",), (), 3)))


def rows_of_length(book, state, length):
    """Every row of that length that can be done, with the state behind it."""
    rows = [([], state)]
    for _ in range(length):
        rows = [(row + [name], model_done(book, at, name)) for row, at in rows for name in model_can(book, at)]
    return rows


class Reached(unittest.TestCase):
    def test_a_day(self):
        self.assertEqual(reached(DAY, ("dirty",)), [(), ("dirty",), ("dirty", "hot"), ("hot",)])
        self.assertEqual(reached(TWINS, ()), [(), ("a",), ("a", "b")])
        self.assertEqual(reached(TWINS, ("b",)), [("a", "b"), ("b",)])

    def test_the_given_state_is_reached(self):
        self.assertEqual(reached(EMPTY, ()), [()])
        self.assertEqual(reached((("a", "b"), ()), ("b",)), [("b",)])

    def test_the_order_is_that_of_the_facts_not_of_how_many_hold(self):
        book = (("a", "b", "c"), tuple([(name, (), (), (name,), (), 0) for name in "cba"]))
        self.assertEqual(reached(book, ()), [(), ("a",), ("a", "b"), ("a", "b", "c"), ("a", "c"), ("b",), ("b", "c"),
                                             ("c",)])

    def test_all_64_states(self):
        self.assertEqual(reached(counter(6, 0), ()), sorted(subsets(tuple("abcdef"))))

    def test_many_books(self):
        for book in random_books(11, 1):
            for state in subsets(book[0]):
                self.assertEqual(reached(book, state), sorted(model_rounds(book, state)[64]), (book, state))

    def test_all_through_which_rows_lead(self):
        chance = random.Random(12)
        for book, state, _ in random_cases(13, 3, 2) + lively_cases(13, 200):
            told = reached(book, state)
            row = []
            while len(row) < 12 and model_can(book, leads(book, state, row)[-1]):
                row.append(chance.choice(model_can(book, leads(book, state, row)[-1])))
            self.assertLessEqual(set(leads(book, state, row)), set(told), (book, state, row))

    def test_what_is_reached_from_one_that_is_reached(self):
        for book, state, _ in random_cases(14, 1, 2) + lively_cases(14, 40):
            told = reached(book, state)
            for at in told:
                self.assertLessEqual(set(reached(book, at)), set(told), (book, state, at))


class Within(unittest.TestCase):
    def test_a_day(self):
        self.assertEqual(within(DAY, ("coins",), 0), [("coins",)])
        self.assertEqual(within(DAY, ("coins",), 1), [("bread",), ("coins",), ("coins", "hot")])
        self.assertEqual(within(TWINS, (), 1), [(), ("a",)])
        self.assertEqual(within(TWINS, (), 2), [(), ("a",), ("a", "b")])

    def test_the_bounds(self):
        book = counter(6, 0)
        self.assertEqual(within(book, (), 0), [()])
        self.assertEqual(len(within(book, (), 62)), 63)
        self.assertEqual(within(book, (), 63), reached(book, ()))
        self.assertEqual(within(book, (), 64), reached(book, ()))
        self.assertEqual(within(EMPTY, (), 64), [()])

    def test_many_books(self):
        for book, state, _ in random_cases(15, 2, 2) + lively_cases(15, 200):
            rounds = model_rounds(book, state)
            for most in (0, 1, 2, 3, 4, 5, 7, 9, 63, 64):
                self.assertEqual(within(book, state, most), sorted(rounds[most]), (book, state, most))

    def test_numbers_that_are_none(self):
        bads = [thing for thing in odd_things() if thing.__class__ is not int]
        bads += [-1, 65, 10 ** 40, -10 ** 40, True, False, "0", "64", b"1", (1,), [1]]
        check_wrong_inputs(self, within, [(DAY, odd_things(), NoBook), (("coins",), odd_things(), NoState),
                                          (1, bads, NoNumber)])


class Shortest(unittest.TestCase):
    def test_a_day(self):
        row = shortest(DAY, ("coins",), TOAST)
        self.assertIn(row, (["shop", "light", "bake"], ["light", "shop", "bake"]))
        self.assertEqual(far(DAY, ("coins",), TOAST), 3)
        self.assertEqual(shortest(DAY, ("bread", "hot"), CLEAN_TOAST), ["bake", "cool", "clean"])
        self.assertEqual(far(DAY, ("bread", "hot"), CLEAN_TOAST), 3)

    def test_none_serves(self):
        for state, want in (((), TOAST), (("bread", "coins"), (("bread", "coins", "toast"), ())),
                            (("toast",), ((), ("toast",)))):
            with self.subTest(state=state):
                self.assertIsNone(shortest(DAY, state, want))
                self.assertIsNone(far(DAY, state, want))
                self.assertEqual(shortest_rows(DAY, state, want), 0)

    def test_the_state_itself_fulfils_it(self):
        for book, state, want in ((DAY, ("toast",), TOAST), (DAY, (), EMPTY), (EMPTY, (), EMPTY)):
            with self.subTest(state=state):
                self.assertEqual(shortest(book, state, want), [])
                self.assertEqual(far(book, state, want), 0)
                self.assertEqual(shortest_rows(book, state, want), 1)

    def test_as_far_as_can_be(self):
        book = counter(6, 1)
        want = (book[0], ())
        self.assertEqual(far(book, (), want), 63)
        self.assertEqual(len(shortest(book, (), want)), 63)
        self.assertTrue(serves(book, (), want, shortest(book, (), want)))
        self.assertEqual(shortest_rows(book, (), want), 1)

    def test_many_books(self):
        none = 0
        for book, state, want in random_cases(16, 3, 4) + lively_cases(16, 300):
            row, number = shortest(book, state, want), far(book, state, want)
            self.assertEqual(number, model_far(book, state, want), (book, state, want))
            if number is None:
                none += 1
                self.assertIsNone(row)
                self.assertFalse([at for at in reached(book, state) if model_meets(at, want)])
            else:
                self.assertIs(row.__class__, list)
                self.assertEqual(len(row), number)
                self.assertTrue(model_serves(book, state, want, row), (book, state, want, row))
                self.assertEqual(row == [], model_meets(state, want))
        self.assertGreater(none, 50)

    def test_no_row_that_serves_is_shorter(self):
        chance = random.Random(17)
        for book, state, want in random_cases(18, 4, 4) + lively_cases(18, 300):
            row = random_row(chance, book, 4)
            if model_serves(book, state, want, row):
                self.assertLessEqual(far(book, state, want), len(row), (book, state, want, row))


class ShortestRows(unittest.TestCase):
    def test_a_day(self):
        self.assertEqual(shortest_rows(DAY, ("coins",), TOAST), 2)
        self.assertEqual(shortest_rows(DAY, ("bread", "hot"), CLEAN_TOAST), 1)

    def test_unlike_errands_to_the_same_state_are_unlike_rows(self):
        self.assertEqual(shortest_rows(TWINS, (), (("a",), ())), 2)
        self.assertEqual(shortest_rows(TWINS, (), (("b",), ())), 2)

    def test_rows_to_unlike_states(self):
        book = (("a", "b", "c"), (("one", (), (), ("a", "c"), (), 0), ("two", (), (), ("b", "c"), (), 0)))
        self.assertEqual(shortest_rows(book, (), (("c",), ())), 2)
        self.assertEqual(shortest_rows(book, (), (("a", "b"), ())), 2)

    def test_only_those_of_the_fewest_errands_count(self):
        book = (("a", "b"), (("both", (), (), ("a", "b"), (), 0), ("one", (), (), ("a",), (), 0),
                             ("two", (), (), ("b",), (), 0)))
        self.assertEqual(shortest_rows(book, (), (("a", "b"), ())), 1)

    def test_a_longer_way_with_two_errands_for_each_step(self):
        errands = [(name, errand[1], errand[2], errand[3], errand[4], 1)
                   for errand in counter(3, 1)[1] for name in (errand[0], errand[0] * 2)]
        book = (("a", "b", "c"), tuple(errands))
        self.assertEqual(shortest_rows(book, (), (("a", "b", "c"), ())), 128)

    def test_against_a_count_through_all_rows(self):
        some, none, more = 0, 0, 0
        for book, state, want in random_cases(19, 4, 4) + lively_cases(19, 400):
            number = model_far(book, state, want)
            told = shortest_rows(book, state, want)
            if number is None:
                none += 1
                self.assertEqual(told, 0)
            elif number <= 5:
                some += 1
                count = len([row for row, at in rows_of_length(book, state, number) if model_meets(at, want)])
                more += count > 1
                self.assertEqual(told, count, (book, state, want))
        self.assertGreater(min(some, none, more), 50)


class TwoSteps(unittest.TestCase):
    def test_by_way_of_another_state(self):
        for book, state, want in random_cases(20, 1, 2) + lively_cases(20, 60):
            number = far(book, state, want)
            for at in reached(book, state):
                on = far(book, at, want)
                if on is not None:
                    self.assertLessEqual(number, far(book, state, only(book, at)) + on, (book, state, want, at))

    def test_each_state_on_a_shortest_row(self):
        for book, state, want in random_cases(21, 2, 3) + lively_cases(21, 150):
            row = shortest(book, state, want)
            for at, on in enumerate(leads(book, state, row or [])):
                self.assertEqual(far(book, state, only(book, on)), at)
                if row is not None:
                    self.assertEqual(far(book, on, want), len(row) - at, (book, state, want, row))

    def test_behind_one_errand_the_want_is_at_most_one_nearer(self):
        for book, state, want in random_cases(22, 2, 3) + lively_cases(22, 200):
            number = far(book, state, want)
            for name in model_can(book, state):
                on = far(book, model_done(book, state, name), want)
                if number is None:
                    self.assertIsNone(on)
                elif on is not None:
                    self.assertGreaterEqual(on, number - 1, (book, state, want, name))


class Refusals(unittest.TestCase):
    def test_wrong_inputs(self):
        book = (DAY, odd_things(), NoBook)
        state = (("coins",), odd_things() + list(BAD_STATES), NoState)
        want = (TOAST, odd_things() + list(BAD_WANTS), NoWant)
        check_wrong_inputs(self, reached, [book, state])
        for function in (shortest, far, shortest_rows):
            check_wrong_inputs(self, function, [book, state, want])

    def test_the_first_named_refusal_comes(self):
        book = (DAY, None, NoBook)
        state = (("coins",), ("none",), NoState)
        check_order(self, reached, [book, state])
        check_order(self, within, [book, state, (2, True, NoNumber)])
        for function in (shortest, far, shortest_rows):
            check_order(self, function, [book, state, (TOAST, None, NoWant)])


class NothingIsKept(unittest.TestCase):
    def test_lists_are_new_ones(self):
        for function, last in ((reached, ()), (within, (3,)), (shortest, (TOAST,)), (shortest, (EMPTY,))):
            with self.subTest(function=function.__name__):
                first = function(DAY, ("coins",), *last)
                before = copy.deepcopy(first)
                first.append("more")
                self.assertEqual(function(DAY, ("coins",), *last), before)

    def test_equal_things_give_equal_answers(self):
        for book, state, want in random_cases(23, 1, 1):
            other = copy.deepcopy(book)
            self.assertEqual(reached(book, state), reached(other, state))
            self.assertEqual(shortest(book, state, want), shortest(other, state, want))


if __name__ == "__main__":
    unittest.main()
