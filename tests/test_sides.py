"""Errands side by side, and rounds (points 1, 3, 4, 11)."""

import copy
import itertools
import random
import unittest

from errands.errors import NoBook, NoErrand, NoRow
from errands.rows import asked, leads
from errands.sides import beside, rounds
from tests.helper import (BAD_ROWS, DAY, EMPTY, check_order, check_wrong_inputs, lively_cases, model_can, model_done,
                          model_serves, odd_things, random_books, random_row, random_split, subsets)


def one_fact(name, place):
    """An errand that has the fact a in one place alone; 0: in none."""
    parts = [("a",) if place == at else () for at in range(1, 5)]
    return (name, *parts, 0)


def model_beside(book, one, other):
    """Word by word as the document tells."""
    _, needs, bars, makes, ends, _ = [errand for errand in book[1] if errand[0] == one][0]
    _, other_needs, other_bars, other_makes, other_ends, _ = [errand for errand in book[1] if errand[0] == other][0]
    for fact in book[0]:
        if fact in makes or fact in ends:
            if fact in other_needs or fact in other_bars:
                return False
        if fact in other_makes or fact in other_ends:
            if fact in needs or fact in bars:
                return False
        if fact in makes and fact in other_ends or fact in other_makes and fact in ends:
            return False
    return True


def model_rows_of_neighbours(book, row):
    """For each errand of the row how many the longest row has that ends with it, of neighbours not side by side."""
    longest = []
    for at, name in enumerate(row):
        longest.append(1 + max([longest[ahead] for ahead in range(at) if not model_beside(book, row[ahead], name)],
                               default=0))
    return longest


def longest_by_trying(book, row):
    """The same of the whole row, by trying all rows that can be taken from it in order."""
    for many in range(len(row), 0, -1):
        for taken in itertools.combinations(row, many):
            if not any(model_beside(book, one, other) for one, other in zip(taken, taken[1:])):
                return many
    return 0


def doable_row(chance, book, state, most):
    row = []
    while len(row) < most and model_can(book, state):
        row.append(chance.choice(model_can(book, state)))
        state = model_done(book, state, row[-1])
    return row


def row_cases(seed, times, lively):
    """Tuples (book, row): rows that can be done from some state, and rows by chance."""
    chance = random.Random(seed)
    cases = []
    for book in random_books(seed, times) + [case[0] for case in lively_cases(seed, lively)]:
        cases.append((book, random_row(chance, book, 7)))
        cases.append((book, doable_row(chance, book, chance.choice(subsets(book[0])), 9)))
    return cases


def shuffled(chance, parts):
    """A row of the rounds, one behind the other, each in some order."""
    row = []
    for part in parts:
        row += chance.sample(part, len(part))
    return row


class Beside(unittest.TestCase):
    def test_a_day(self):
        self.assertIs(beside(DAY, "shop", "light"), True)
        self.assertIs(beside(DAY, "shop", "bake"), False)
        self.assertIs(beside(DAY, "light", "cool"), False)
        self.assertIs(beside(DAY, "rest", "bake"), True)

    def test_with_itself(self):
        self.assertEqual([beside(DAY, name, name) for name in ("shop", "light", "bake", "clean", "cool", "rest")],
                         [False, False, False, False, True, True])

    def test_each_place_of_a_fact_against_each_other(self):
        # Places of an errand: 1 needs, 2 bars, 3 makes, 4 ends.
        apart = {(3, 1), (3, 2), (4, 1), (4, 2), (3, 4)}
        for one, other in itertools.product(range(5), repeat=2):
            book = (("a", "b"), (one_fact("x", one), one_fact("y", other)))
            expected = (one, other) not in apart and (other, one) not in apart
            with self.subTest(one=one, other=other):
                self.assertIs(beside(book, "x", "y"), expected)
                self.assertIs(beside(book, "y", "x"), expected)

    def test_each_two_errands_of_many_books(self):
        true, false = 0, 0
        for book in random_books(121, 4) + [case[0] for case in lively_cases(121, 100)]:
            for one, other in itertools.product([errand[0] for errand in book[1]], repeat=2):
                told = beside(book, one, other)
                self.assertIs(told, model_beside(book, one, other), (book, one, other))
                self.assertIs(beside(book, other, one), told)
                true += told and one != other
                false += not told
        self.assertGreater(min(true, false), 200)

    def test_at_each_state(self):
        both = 0
        for book in random_books(122, 2) + [case[0] for case in lively_cases(122, 60)]:
            names = [errand[0] for errand in book[1]]
            pairs = [pair for pair in itertools.product(names, repeat=2) if beside(book, *pair)]
            for (one, other), state in itertools.product(pairs, subsets(book[0])):
                doable = model_can(book, state)
                if one in doable and other in doable:
                    both += one != other
                    behind, behind_other = model_done(book, state, one), model_done(book, state, other)
                    self.assertIn(other, model_can(book, behind), (book, state, one, other))
                    self.assertEqual(model_done(book, behind, other), model_done(book, behind_other, one))
                elif one in doable:
                    self.assertNotIn(other, model_can(book, model_done(book, state, one)), (book, state, one, other))
        self.assertGreater(both, 100)

    def test_what_is_no_name_of_an_errand(self):
        bads = odd_things() + ["sho", "shops", "coins", ("shop",), ["shop"], b"shop", DAY[1][0]]
        check_wrong_inputs(self, beside, [(DAY, odd_things(), NoBook), ("shop", bads, NoErrand),
                                          ("rest", bads, NoErrand)])


class Rounds(unittest.TestCase):
    def test_a_day(self):
        self.assertEqual(rounds(DAY, ["shop", "light", "bake"]), [["shop", "light"], ["bake"]])
        self.assertEqual(rounds(DAY, ["light", "shop", "bake"]), [["light", "shop"], ["bake"]])
        self.assertEqual(rounds(DAY, ["shop", "light", "bake", "cool", "clean", "rest"]),
                         [["shop", "light", "rest"], ["bake"], ["cool"], ["clean"]])

    def test_the_empty_row(self):
        self.assertEqual(rounds(DAY, []), [])
        self.assertEqual(rounds(EMPTY, []), [])

    def test_an_errand_more_than_once(self):
        self.assertEqual(rounds(DAY, ["rest", "cool", "rest", "cool"]), [["rest", "cool", "rest", "cool"]])
        self.assertEqual(rounds(DAY, ["light", "light", "light"]), [["light"], ["light"], ["light"]])

    def test_the_row_need_not_be_one_that_can_be_done(self):
        self.assertEqual(rounds(DAY, ["bake", "shop"]), [["bake"], ["shop"]])

    def test_behind_those_that_do_not_go_with_it_not_behind_all(self):
        # cool waits for light alone, and shop for nothing, although they stand behind others.
        self.assertEqual(rounds(DAY, ["light", "light", "rest", "shop", "cool"]),
                         [["light", "rest", "shop"], ["light"], ["cool"]])

    def test_a_round_in_between(self):
        book = (("a", "b", "c", "d"), (("one", (), (), ("a",), (), 0), ("two", ("a",), (), ("b",), (), 0),
                                       ("three", ("b",), (), ("c",), (), 0), ("side", ("a",), (), ("d",), (), 0)))
        self.assertEqual(rounds(book, ["one", "two", "three", "side"]), [["one"], ["two", "side"], ["three"]])

    def test_64_errands(self):
        self.assertEqual(rounds(DAY, ["rest"] * 64), [["rest"] * 64])
        self.assertEqual(rounds(DAY, ["light", "cool"] * 32), [["light"], ["cool"]] * 32)

    def test_many_rows(self):
        several = 0
        for book, row in row_cases(123, 6, 200):
            told = rounds(book, row)
            self.assertIs(told.__class__, list)
            longest = model_rows_of_neighbours(book, row)
            expected = [[name for at, name in enumerate(row) if longest[at] == number + 1]
                        for number in range(max(longest, default=0))]
            self.assertEqual(told, expected, (book, row))
            self.assertEqual(sorted(sum(told, [])), sorted(row))
            several += 1 < len(told) < len(row)
        self.assertGreater(several, 100)

    def test_as_many_as_the_longest_row_of_neighbours(self):
        for book, row in row_cases(124, 2, 100):
            self.assertEqual(len(rounds(book, row)), longest_by_trying(book, row), (book, row))

    def test_whatever_the_order_within_the_rounds(self):
        chance = random.Random(125)
        other, done = 0, 0
        for book, row in row_cases(126, 4, 200):
            parts = rounds(book, row)
            want = random_split(chance, book[0], 2)
            for _ in range(3):
                turned = shuffled(chance, parts)
                other += turned != row
                self.assertEqual(asked(book, want, turned), asked(book, want, row), (book, row, turned))
                for state in subsets(book[0]):
                    if model_serves(book, state, EMPTY, row):
                        done += turned != row
                        self.assertEqual(leads(book, state, turned)[-1], leads(book, state, row)[-1])
        self.assertGreater(min(other, done), 200)

    def test_what_is_no_row(self):
        check_wrong_inputs(self, rounds, [(DAY, odd_things(), NoBook),
                                          (["shop"], list(BAD_ROWS) + odd_things(), NoRow)])

    def test_what_is_no_row_has_no_number(self):
        for row in BAD_ROWS:
            with self.subTest(row=row):
                with self.assertRaises(NoRow) as caught:
                    rounds(DAY, row)
                self.assertIsNone(caught.exception.number)


class Refusals(unittest.TestCase):
    def test_the_first_named_refusal_comes(self):
        book = (DAY, None, NoBook)
        check_order(self, beside, [book, ("shop", None, NoErrand), ("rest", "none", NoErrand)])
        check_order(self, rounds, [book, (["shop"], ("shop",), NoRow)])


class NothingIsKept(unittest.TestCase):
    def test_rows_are_not_changed(self):
        row = ["shop", "light", "bake", "rest"]
        before = copy.deepcopy(row)
        rounds(DAY, row)
        self.assertEqual(row, before)

    def test_lists_are_new_ones(self):
        first = rounds(DAY, ["shop", "light", "bake"])
        first[0].append("more")
        first.append(["more"])
        self.assertEqual(rounds(DAY, ["shop", "light", "bake"]), [["shop", "light"], ["bake"]])
        told = rounds(DAY, ["light", "light"])
        told[0].append("more")
        self.assertEqual(told[1], ["light"])


if __name__ == "__main__":
    unittest.main()
