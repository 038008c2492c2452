"""Rows (points 1, 4, 5)."""

import copy
import random
import unittest

from errands.books import is_met
from errands.errors import NoBook, NoRow, NoState, NoWant
from errands.rows import asked, leads, price, serves
from tests.helper import (BAD_ROWS, DAY, EMPTY, check_order, check_refused, model_can, model_done, model_serves,
                          odd_things, random_books, random_row, subsets, wants_of)

TOAST = (("toast",), ())
BREAKFAST = ["shop", "light", "bake"]


def bad_rows():
    # Of the odd things those that are lists, too, hold nothing but what is no name.
    return list(BAD_ROWS) + odd_things()


class Leads(unittest.TestCase):
    def test_a_day(self):
        self.assertEqual(leads(DAY, ("coins",), BREAKFAST),
                         [("coins",), ("bread",), ("bread", "hot"), ("dirty", "hot", "toast")])

    def test_the_empty_row(self):
        self.assertEqual(leads(DAY, ("coins", "hot"), []), [("coins", "hot")])
        self.assertEqual(leads(EMPTY, (), []), [()])

    def test_64_errands(self):
        self.assertEqual(leads(DAY, ("hot",), ["rest"] * 64), [("hot",)] * 65)

    def test_number_of_the_first_errand_that_cant_be_done(self):
        for state, row, number in (((), BREAKFAST, 0), (("coins",), ["shop", "shop", "bake"], 1),
                                   (("coins",), ["shop", "light", "bake", "bake"], 3),
                                   (("coins",), ["shop", "bake", "shop"], 1),
                                   ((), ["rest"] * 63 + ["shop"], 63)):
            with self.subTest(row=row):
                number_told = check_refused(self, NoRow, leads, DAY, state, row).number
                self.assertEqual(number_told, number)
                self.assertIs(number_told.__class__, int)

    def test_no_row_has_no_number(self):
        for row in bad_rows():
            with self.subTest(kind=row.__class__):
                self.assertIsNone(check_refused(self, NoRow, leads, DAY, ("coins",), row).number)

    def test_what_is_no_row_has_no_number_though_an_errand_ahead_cant_be_done(self):
        self.assertIsNone(check_refused(self, NoRow, leads, DAY, (), ["shop", "none"]).number)
        self.assertIsNone(check_refused(self, NoRow, leads, DAY, (), ["shop"] * 65).number)

    def test_many_books(self):
        chance = random.Random(3)
        for book in random_books(4, 4):
            for state in subsets(book[0]):
                row = random_row(chance, book, 5)
                states = [state]
                for name in row:
                    if name not in model_can(book, states[-1]):
                        break
                    states.append(model_done(book, states[-1], name))
                if len(states) > len(row):
                    self.assertEqual(leads(book, state, row), states)
                else:
                    refusal = check_refused(self, NoRow, leads, book, state, row)
                    self.assertEqual(refusal.number, len(states) - 1, (book, state, row))


class Serves(unittest.TestCase):
    def test_a_day(self):
        self.assertIs(serves(DAY, ("coins",), TOAST, BREAKFAST), True)
        self.assertIs(serves(DAY, ("coins",), (("toast",), ("dirty",)), BREAKFAST), False)
        self.assertIs(serves(DAY, ("coins",), (("toast",), ("dirty",)), BREAKFAST + ["cool", "clean"]), True)

    def test_a_row_that_cant_be_done(self):
        self.assertIs(serves(DAY, (), EMPTY, ["shop"]), False)
        self.assertIs(serves(DAY, ("toast",), TOAST, ["rest", "shop"]), False)

    def test_only_the_state_behind_counts(self):
        self.assertIs(serves(DAY, (), (("hot",), ()), ["light", "cool"]), False)
        self.assertIs(serves(DAY, ("hot",), ((), ("hot",)), ["cool"]), True)

    def test_the_empty_row(self):
        self.assertIs(serves(DAY, ("toast",), TOAST, []), True)
        self.assertIs(serves(DAY, (), TOAST, []), False)

    def test_what_is_no_row(self):
        for row in bad_rows():
            with self.subTest(kind=row.__class__):
                self.assertIsNone(check_refused(self, NoRow, serves, DAY, ("coins",), TOAST, row).number)

    def test_wants_that_are_none(self):
        for want in odd_things() + [(("hot",), ("hot",)), [(), ()], (("hot", "coins"), ()), ((), ("none",))]:
            with self.subTest(kind=want.__class__):
                check_refused(self, NoWant, serves, DAY, ("coins",), want, BREAKFAST)
                check_refused(self, NoWant, serves, DAY, (), want, ["shop"])


class Price(unittest.TestCase):
    def test_a_day(self):
        self.assertEqual(price(DAY, BREAKFAST), 6)
        self.assertEqual(price(DAY, BREAKFAST + ["cool", "clean", "rest"]), 15)

    def test_each_time_counts(self):
        self.assertEqual(price(DAY, ["clean"] * 64), 576)
        self.assertEqual(price(DAY, ["light", "shop", "light"]), 5)

    def test_the_empty_row(self):
        self.assertEqual(price(DAY, []), 0)
        self.assertEqual(price(EMPTY, []), 0)

    def test_what_is_no_row(self):
        for row in bad_rows():
            with self.subTest(kind=row.__class__):
                self.assertIsNone(check_refused(self, NoRow, price, DAY, row).number)


class Asked(unittest.TestCase):
    def test_a_day(self):
        self.assertEqual(asked(DAY, TOAST, ["bake"]), (("bread", "hot"), ("dirty",)))
        self.assertEqual(asked(DAY, TOAST, BREAKFAST), (("coins",), ("dirty", "hot")))
        self.assertEqual(asked(DAY, TOAST, ["cool"]), (("toast",), ()))
        self.assertEqual(asked(DAY, ((), ("dirty", "hot")), ["cool"]), ((), ("dirty",)))
        self.assertEqual(asked(DAY, (("hot", "toast"), ("bread",)), ["light"]), (("toast",), ("bread", "hot")))

    def test_the_empty_row_asks_for_the_want(self):
        for want in wants_of(("bread", "dirty", "toast")):
            self.assertEqual(asked(DAY, want, []), want)

    def test_rows_that_never_serve(self):
        for want, row in (((("hot",), ()), ["cool"]), (((), ("hot",)), ["light"]), (EMPTY, ["light", "light"]),
                          (EMPTY, ["cool", "bake"]), (EMPTY, ["bake", "bake"]), ((("bread",), ()), ["bake"]),
                          (EMPTY, ["rest", "light", "rest", "clean"]), ((("coins",), ()), ["rest", "shop", "rest"])):
            with self.subTest(want=want, row=row):
                self.assertIsNone(asked(DAY, want, row))

    def test_want_against_what_the_errand_itself_needs(self):
        book = (("a", "b"), (("go", ("a",), (), (), (), 0), ("be", (), ("b",), (), (), 0)))
        self.assertIsNone(asked(book, ((), ("a",)), ["go"]))
        self.assertIsNone(asked(book, (("b",), ()), ["be"]))
        self.assertEqual(asked(book, (("a",), ("b",)), ["go", "be"]), (("a",), ("b",)))

    def test_each_state_serves_just_if_it_fulfils_what_is_asked(self):
        chance = random.Random(5)
        some, none = 0, 0
        for book in random_books(6, 6):
            row = random_row(chance, book, chance.choice((1, 2, 5)))
            wants = wants_of(book[0])
            for want in [((), ())] + chance.sample(wants, min(4, len(wants))):
                told = asked(book, want, row)
                serving = [state for state in subsets(book[0]) if model_serves(book, state, want, row)]
                self.assertEqual([state for state in subsets(book[0]) if serves(book, state, want, row)], serving)
                if told is None:
                    none += 1
                    self.assertEqual(serving, [], (book, want, row))
                else:
                    some += 1
                    met = [state for state in subsets(book[0]) if is_met(book, state, told)]
                    self.assertEqual(met, serving, (book, want, row))
                    self.assertNotEqual(serving, [])
        self.assertGreater(min(some, none), 100)

    def test_what_is_no_row(self):
        for row in bad_rows():
            with self.subTest(kind=row.__class__):
                self.assertIsNone(check_refused(self, NoRow, asked, DAY, TOAST, row).number)

    def test_what_is_no_row_though_the_rest_never_serves(self):
        check_refused(self, NoRow, asked, DAY, (("hot",), ()), ["none", "cool"])

    def test_wants_that_are_none(self):
        for want in odd_things() + [(("hot",), ("hot",)), [(), ()], (("hot", "coins"), ()), ((), ("none",))]:
            with self.subTest(kind=want.__class__):
                check_refused(self, NoWant, asked, DAY, want, BREAKFAST)
                check_refused(self, NoWant, asked, DAY, want, [])


class Refusals(unittest.TestCase):
    def test_odd_things_are_no_book_and_no_state(self):
        for thing in odd_things():
            with self.subTest(kind=thing.__class__):
                check_refused(self, NoBook, leads, thing, (), [])
                check_refused(self, NoBook, serves, thing, (), EMPTY, [])
                check_refused(self, NoBook, asked, thing, EMPTY, [])
                check_refused(self, NoBook, price, thing, [])
                check_refused(self, NoState, leads, DAY, thing, [])
                check_refused(self, NoState, serves, DAY, thing, EMPTY, [])

    def test_the_first_named_refusal_comes(self):
        book = (DAY, None, NoBook)
        state = (("coins",), ("none",), NoState)
        want = (TOAST, None, NoWant)
        row = (BREAKFAST, ["none"], NoRow)
        check_order(self, leads, [book, state, row])
        check_order(self, serves, [book, state, want, row])
        check_order(self, asked, [book, want, row])
        check_order(self, price, [book, row])

    def test_a_row_that_cant_be_done_is_named_behind_the_rest(self):
        check_order(self, leads, [(DAY, None, NoBook), (("coins",), ["coins"], NoState),
                                  (["shop"], ["shop", "shop"], NoRow)])


class NothingIsKept(unittest.TestCase):
    def test_rows_are_not_changed(self):
        row = list(BREAKFAST)
        bad = ["shop", "none"]
        before = copy.deepcopy((row, bad))
        leads(DAY, ("coins",), row)
        serves(DAY, ("coins",), TOAST, row)
        asked(DAY, TOAST, row)
        price(DAY, row)
        check_refused(self, NoRow, leads, DAY, (), row)
        check_refused(self, NoRow, leads, DAY, ("coins",), bad)
        self.assertEqual((row, bad), before)

    def test_lists_are_new_ones(self):
        row = []
        first = leads(DAY, ("coins",), row)
        first.append("more")
        self.assertEqual(leads(DAY, ("coins",), row), [("coins",)])
        self.assertEqual(row, [])

    def test_a_row_that_is_changed_later_is_looked_at_anew(self):
        row = list(BREAKFAST)
        self.assertEqual(price(DAY, row), 6)
        row.append("clean")
        self.assertEqual(price(DAY, row), 15)
        self.assertEqual(price(DAY, BREAKFAST), 6)

    def test_equal_things_give_equal_answers(self):
        for _ in range(2):
            other = copy.deepcopy(DAY)
            self.assertEqual(leads(other, ("coins",), list(BREAKFAST)), leads(DAY, ("coins",), BREAKFAST))
            self.assertEqual(asked(other, TOAST, list(BREAKFAST)), asked(DAY, TOAST, BREAKFAST))


if __name__ == "__main__":
    unittest.main()
