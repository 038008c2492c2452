"""Rows trimmed and mended (points 1, 4, 5, 6, 12)."""

import copy
import random
import unittest

from errands.errors import NoBook, NoRow, NoState, NoWant
from errands.mends import mended, trimmed
from errands.rows import serves
from errands.search import far, shortest
from tests.helper import (BAD_ROWS, BAD_STATES, BAD_WANTS, DAY, EMPTY, check_order, check_refused, check_wrong_inputs,
                          counter, few_facts, lively_cases, model_far, model_rounds, model_serves, odd_things,
                          random_cases, random_row, random_split, serving_rows)

TOAST = (("toast",), ())
BREAKFAST = ["shop", "light", "bake"]
# Each errand makes its fact of the one ahead of it; still changes nothing.
STAIRS = (("a", "b", "c"), (("one", (), (), ("a",), (), 1), ("two", ("a",), (), ("b",), (), 1),
                            ("three", ("b",), (), ("c",), (), 1), ("still", (), (), (), (), 0)))


def without_place(row, place):
    return row[:place] + row[place + 1:]


def model_trimmed(book, state, want, row):
    while True:
        before = row
        for place in range(len(before) - 1, -1, -1):
            if model_serves(book, state, want, without_place(row, place)):
                row = without_place(row, place)
        if row == before:
            return row


def model_mended(book, state, want, row):
    """How many new errands, and which rest, or None; all states by how many errands lead there."""
    rests = [row[place:] for place in range(len(row), -1, -1)]
    for number, states in enumerate(model_rounds(book, state)):
        for rest in rests:
            if any(model_serves(book, at, want, rest) for at in states):
                return number, rest
    return None


def mend_cases(seed, times, many, lively):
    """Tuples (book, state, want, row) of books of up to five facts: rows by chance, and such that once served."""
    chance = random.Random(seed)
    cases = []
    for book, state, want in few_facts(random_cases(seed, times, many) + lively_cases(seed, lively), 5):
        rows = [random_row(chance, book, 6)] + serving_rows(chance, book, state, want)[:2]
        for row in rows:
            others = [random_split(chance, book[0], 2)[0] for _ in range(2)]
            cases += [(book, at, want, row) for at in [state] + others]
            # A want that is other than the one that the row was for.
            cases.append((book, state, random_split(chance, book[0], 3), row))
    return cases


class Trimmed(unittest.TestCase):
    def test_a_day(self):
        self.assertEqual(trimmed(DAY, ("coins",), TOAST, BREAKFAST), BREAKFAST)
        self.assertEqual(trimmed(DAY, ("coins",), TOAST, ["rest", "shop", "cool", "light", "bake", "cool", "clean"]),
                         BREAKFAST)
        self.assertEqual(trimmed(DAY, ("toast",), TOAST, ["light", "cool", "rest"]), [])

    def test_from_the_last_to_the_first(self):
        book = (("a",), (("one", (), (), ("a",), (), 0), ("two", (), (), ("a",), (), 0)))
        self.assertEqual(trimmed(book, (), (("a",), ()), ["one", "two"]), ["one"])
        self.assertEqual(trimmed(book, (), (("a",), ()), ["two", "one", "two"]), ["two"])

    def test_again_and_again(self):
        # While light is there cool can't be left out: it takes a second walk.
        self.assertEqual(trimmed(DAY, (), ((), ("hot",)), ["light", "cool"]), [])
        book = (("a", "b", "c"), (("x", (), (), ("a",), (), 0), ("y", ("a",), (), ("b",), ("a",), 0),
                                  ("z", ("b",), (), (), ("b",), 0), ("w", (), ("c",), (), ("a", "b"), 0)))
        self.assertEqual(trimmed(book, (), ((), ("a", "b")), ["x", "w", "x", "w"]), [])

    def test_two_that_could_be_left_out_only_together_stay(self):
        self.assertEqual(trimmed(DAY, ("hot",), (("hot",), ()), ["cool", "light"]), ["cool", "light"])

    def test_an_errand_that_stands_twice_is_left_out_by_its_place(self):
        self.assertEqual(trimmed(STAIRS, (), (("b",), ()), ["one", "one", "two", "one", "two"]), ["one", "two"])

    def test_the_empty_row(self):
        self.assertEqual(trimmed(DAY, (), EMPTY, []), [])
        check_refused(self, NoRow, trimmed, DAY, (), TOAST, [])

    def test_64_errands(self):
        self.assertEqual(trimmed(DAY, (), EMPTY, ["light", "cool"] * 32), [])
        self.assertEqual(trimmed(DAY, ("coins",), TOAST, ["rest"] * 61 + BREAKFAST), BREAKFAST)
        book = counter(6, 1)
        row = shortest(book, (), (book[0], ()))
        self.assertEqual(trimmed(book, (), (book[0], ()), row), row)

    def test_many_rows(self):
        some, none, again = 0, 0, 0
        for book, state, want, row in mend_cases(141, 3, 3, 300):
            if model_serves(book, state, want, row):
                told = trimmed(book, state, want, row)
                self.assertIs(told.__class__, list)
                self.assertEqual(told, model_trimmed(book, state, want, row), (book, state, want, row))
                self.assertTrue(model_serves(book, state, want, told))
                for place in range(len(told)):
                    self.assertFalse(model_serves(book, state, want, without_place(told, place)))
                self.assertEqual(trimmed(book, state, want, told), told)
                some += [] != told != row
                again += [] != told == row
            else:
                none += 1
                self.assertIsNone(check_refused(self, NoRow, trimmed, book, state, want, row).number)
        self.assertGreater(min(some, none, again), 100)

    def test_a_row_that_does_not_serve_has_no_number(self):
        for state, want, row in (((), TOAST, BREAKFAST), (("coins",), TOAST, ["shop", "shop"]),
                                 (("coins",), TOAST, ["shop"]), (("coins",), (("toast",), ("dirty",)), BREAKFAST)):
            with self.subTest(row=row):
                self.assertIsNone(check_refused(self, NoRow, trimmed, DAY, state, want, row).number)


class Mended(unittest.TestCase):
    def test_a_day(self):
        self.assertEqual(mended(DAY, ("coins", "hot"), TOAST, BREAKFAST), ["shop", "bake"])
        self.assertEqual(mended(DAY, ("bread",), TOAST, BREAKFAST), ["light", "bake"])
        self.assertEqual(mended(DAY, ("bread", "dirty"), TOAST, BREAKFAST), ["clean", "light", "bake"])

    def test_the_row_serves(self):
        self.assertEqual(mended(DAY, ("coins",), TOAST, BREAKFAST), BREAKFAST)

    def test_the_shortest_rest_that_serves(self):
        self.assertEqual(mended(DAY, ("coins",), TOAST, ["rest", "cool"] + BREAKFAST), BREAKFAST)
        self.assertEqual(mended(STAIRS, ("a", "b"), (("c",), ()), ["one", "two", "three"]), ["three"])
        self.assertEqual(mended(DAY, ("toast",), TOAST, BREAKFAST), [])

    def test_fewer_new_errands_count_for_more_than_a_shorter_rest(self):
        self.assertEqual(mended(STAIRS, ("a",), (("c",), ()), ["two", "still", "three"]), ["two", "still", "three"])
        self.assertEqual(mended(STAIRS, (), (("c",), ()), ["two", "still", "three"]), ["one", "two", "still", "three"])

    def test_nothing_of_the_row_is_left(self):
        self.assertEqual(mended(STAIRS, (), (("c",), ()), []), ["one", "two", "three"])
        self.assertIn(mended(STAIRS, ("b",), (("a", "c"), ()), ["two"]), (["one", "three"], ["three", "one"]))

    def test_it_cant_be(self):
        self.assertIsNone(mended(DAY, (), TOAST, BREAKFAST))
        self.assertIsNone(mended(DAY, (), TOAST, []))
        self.assertIsNone(mended(DAY, ("coins",), (("coins", "toast"), ()), BREAKFAST))

    def test_a_row_that_never_serves_may_have_a_rest_that_does(self):
        self.assertEqual(mended(DAY, ("bread", "hot"), TOAST, ["light", "light", "bake"]), ["bake"])

    def test_64_errands(self):
        row = ["two"] + ["still"] * 62 + ["three"]
        self.assertEqual(mended(STAIRS, ("a",), (("c",), ()), row), row)
        self.assertEqual(mended(STAIRS, (), (("c",), ()), row), ["one"] + row)
        self.assertEqual(mended(DAY, (), (("hot",), ()), ["light", "cool"] * 32), ["light"])
        self.assertEqual(mended(DAY, (), (("hot",), ()), ["cool", "light"] * 32), ["light"])

    def test_as_many_new_errands_as_can_be(self):
        book = counter(6, 1)
        want = (book[0], ())
        self.assertEqual(len(mended(book, (), want, [])), 63)
        row = shortest(book, (), want)
        self.assertEqual(mended(book, ("a",), want, row), row[1:])
        # z counts from 62 to 63; before that it is of no use.
        self.assertEqual(mended(book, (), want, ["z"] * 64), row)

    def test_many_rows(self):
        none, new, rests, both = 0, 0, 0, 0
        for book, state, want, row in mend_cases(142, 2, 2, 200):
            told, expected = mended(book, state, want, row), model_mended(book, state, want, row)
            if expected is None:
                none += 1
                self.assertIsNone(told, (book, state, want, row))
                self.assertIsNone(model_far(book, state, want))
            else:
                number, rest = expected
                self.assertIs(told.__class__, list)
                self.assertEqual(len(told), number + len(rest), (book, state, want, row))
                self.assertEqual(told[number:], rest, (book, state, want, row))
                self.assertTrue(model_serves(book, state, want, told))
                self.assertLessEqual(number, far(book, state, want))
                new += number > 0
                rests += rest != []
                both += number > 0 and rest != []
        self.assertGreater(min(none, new, rests), 100)
        self.assertGreater(both, 50)

    def test_where_the_row_serves(self):
        some = 0
        for book, state, want, row in mend_cases(143, 2, 2, 200):
            if serves(book, state, want, row):
                some += 1
                serving = [row[at:] for at in range(len(row) + 1) if serves(book, state, want, row[at:])]
                self.assertEqual(mended(book, state, want, row), serving[-1], (book, state, want, row))
        self.assertGreater(some, 100)


class Refusals(unittest.TestCase):
    def arguments(self):
        return [(DAY, odd_things(), NoBook), (("coins",), odd_things() + list(BAD_STATES), NoState),
                (TOAST, odd_things() + list(BAD_WANTS), NoWant), (BREAKFAST, odd_things() + list(BAD_ROWS), NoRow)]

    def test_wrong_inputs(self):
        for function in (trimmed, mended):
            check_wrong_inputs(self, function, self.arguments())

    def test_what_is_no_row_has_no_number(self):
        for row in BAD_ROWS:
            for function in (trimmed, mended):
                with self.subTest(function=function.__name__, row=row):
                    self.assertIsNone(check_refused(self, NoRow, function, DAY, ("coins",), TOAST, row).number)

    def test_what_is_no_row_where_the_state_fulfils_the_want(self):
        for function in (trimmed, mended):
            check_refused(self, NoRow, function, DAY, ("toast",), TOAST, ["none"])
            check_refused(self, NoRow, function, DAY, ("toast",), TOAST, ["rest"] * 65)

    def test_the_first_named_refusal_comes(self):
        first = [(DAY, None, NoBook), (("coins",), ("none",), NoState), (TOAST, None, NoWant)]
        for function in (trimmed, mended):
            check_order(self, function, first + [(BREAKFAST, ["none"], NoRow)])
        check_order(self, trimmed, first + [(BREAKFAST, ["shop"], NoRow)])


class NothingIsKept(unittest.TestCase):
    def test_rows_are_not_changed_and_lists_are_new_ones(self):
        for function in (trimmed, mended):
            for row in ([], list(BREAKFAST), ["rest", "cool"] + BREAKFAST):
                with self.subTest(function=function.__name__, row=row):
                    state = ("coins",) if row else ("toast",)
                    before = copy.deepcopy(row)
                    told = function(DAY, state, TOAST, row)
                    expected = copy.deepcopy(told)
                    told.append("more")
                    self.assertEqual(row, before)
                    self.assertEqual(function(DAY, state, TOAST, row), expected)


if __name__ == "__main__":
    unittest.main()
