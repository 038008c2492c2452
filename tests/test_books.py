"""Books, states and wants (points 1, 2, 3)."""

import unittest

from errands.books import can, checked, done, is_met
from errands.errors import NoBook, NoErrand, NoState, NoWant
from tests.helper import (BAD_STATES, BAD_WANTS, DAY, EMPTY, check_order, check_refused, model_can, model_done,
                          model_meets, odd_things, random_books, subsets, wants_of)

GOOD = ("go", ("a",), ("b",), ("b",), ("a",), 4)


def spoilt_errand(place, thing):
    """A book of the facts a, b with one errand that has the thing in this place."""
    return (("a", "b"), (GOOD[:place] + (thing,) + GOOD[place + 1:],))


class Books(unittest.TestCase):
    def test_books_are_told(self):
        for book in (EMPTY, DAY, (("a", "b"), (GOOD,)), (("abcdef", "z"), ()), ((), (("zzzzzz", (), (), (), (), 9),))):
            with self.subTest(book=book):
                self.assertEqual(checked(book), book)

    def test_books_of_all_sizes_are_told(self):
        for book in random_books(1, 6):
            with self.subTest(book=book):
                self.assertEqual(checked(book), book)

    def test_a_fact_may_be_called_like_an_errand(self):
        book = (("go",), (("go", (), (), ("go",), (), 0),))
        self.assertEqual(checked(book), book)

    def test_what_is_needed_may_be_made_or_ended_and_what_is_barred_too(self):
        for errand in (("go", ("a",), (), ("a",), (), 0), ("go", ("a",), (), (), ("a",), 0),
                       ("go", (), ("a",), ("a",), (), 0), ("go", (), ("a",), (), ("a",), 0)):
            with self.subTest(errand=errand):
                self.assertEqual(checked((("a",), (errand,))), (("a",), (errand,)))

    def test_each_price_from_0_to_9(self):
        for number in range(10):
            self.assertEqual(checked(spoilt_errand(5, number)), spoilt_errand(5, number))

    def test_prices_that_are_none(self):
        for thing in (-1, 10, True, False, None, "1", b"1", (1,), [1], 10 ** 30):
            with self.subTest(thing=thing):
                check_refused(self, NoBook, checked, spoilt_errand(5, thing))

    def test_words_that_are_none(self):
        for word in ("", "abcdefg", "A", "aB", "a b", "a1", "a_", "a\n", "\u00e4", "\u03b1", "\uff41", b"a", 1, True,
                     None, ("a",), ["a"]):
            with self.subTest(word=word):
                check_refused(self, NoBook, checked, ((word,), ()))
                check_refused(self, NoBook, checked, spoilt_errand(0, word))

    def test_letters_at_both_ends_of_the_alphabet(self):
        for word in ("a", "z", "azazaz"):
            self.assertEqual(checked(((word,), ())), ((word,), ()))
        for word in ("`", "{"):
            check_refused(self, NoBook, checked, ((word,), ()))

    def test_facts_that_are_none(self):
        for facts in (("b", "a"), ("a", "a"), ("a", "b", "b"), ["a", "b"], [], "ab", "", None, True, 1, {"a"},
                      {"a": 1}, ("a", "b", "c", "d", "e", "f", "g"), ("a", "c", "b"), (("a",),)):
            with self.subTest(facts=facts):
                check_refused(self, NoBook, checked, (facts, ()))

    def test_six_facts_and_six_errands_and_no_more(self):
        facts = tuple("abcdef")
        errands = tuple([(name, (), (), (), (), 0) for name in "uvwxyz"])
        self.assertEqual(checked((facts, errands)), (facts, errands))
        check_refused(self, NoBook, checked, (facts + ("g",), errands))
        check_refused(self, NoBook, checked, (facts, errands + (("t", (), (), (), (), 0),)))

    def test_facts_of_errands_that_are_none(self):
        for place in (1, 2, 3, 4):
            for thing in (("c",), ("b", "a"), ("a", "a"), ["a"], [], "a", "", None, True, {"a"}, (1,), ("go",),
                          (("a",),)):
                with self.subTest(place=place, thing=thing):
                    book = (("a", "b"), (("go", (), (), (), (), 0)[:place] + (thing,) + ((), (), (), (), 0)[place:],))
                    check_refused(self, NoBook, checked, book)

    def test_nothing_is_both_needed_and_barred_or_made_and_ended(self):
        for errand in (("go", ("a",), ("a",), (), (), 0), ("go", (), (), ("b",), ("b",), 0),
                       ("go", ("a", "b"), ("b",), (), (), 0), ("go", (), (), ("a",), ("a", "b"), 0)):
            with self.subTest(errand=errand):
                check_refused(self, NoBook, checked, (("a", "b"), (errand,)))

    def test_errands_that_are_none(self):
        for errand in (None, True, 1, "go", (), ("go",), GOOD[:5], GOOD + (0,), list(GOOD), {"go": 1}, (GOOD,)):
            with self.subTest(errand=errand):
                check_refused(self, NoBook, checked, (("a", "b"), (errand,)))
                check_refused(self, NoBook, checked, (("a", "b"), (GOOD, errand)))

    def test_names_twice(self):
        check_refused(self, NoBook, checked, (("a", "b"), (GOOD, GOOD)))
        check_refused(self, NoBook, checked, (("a", "b"), (GOOD, ("be", (), (), (), (), 0), ("go", (), (), (), (), 0))))

    def test_errands_in_no_tuple(self):
        for errands in ([GOOD], [], None, True, "", {"go": GOOD}, GOOD, {GOOD}):
            with self.subTest(errands=errands):
                check_refused(self, NoBook, checked, (("a", "b"), errands))

    def test_no_pair(self):
        for book in ((), ((),), ((), (), ()), [(), ()], [("a", "b"), (GOOD,)], "ab", "", b"ab", {(): ()}):
            with self.subTest(book=book):
                check_refused(self, NoBook, checked, book)

    def test_odd_things_are_no_book(self):
        for thing in odd_things():
            with self.subTest(kind=thing.__class__):
                check_refused(self, NoBook, checked, thing)
                check_refused(self, NoBook, can, thing, ())
                check_refused(self, NoBook, done, thing, (), "shop")
                check_refused(self, NoBook, is_met, thing, (), EMPTY)


class WhatCanBeDone(unittest.TestCase):
    def test_a_day(self):
        self.assertEqual(can(DAY, ()), ["light", "cool", "rest"])
        self.assertEqual(can(DAY, ("coins",)), ["shop", "light", "cool", "rest"])
        self.assertEqual(can(DAY, ("bread", "hot")), ["bake", "cool", "rest"])
        self.assertEqual(can(DAY, ("bread", "dirty", "hot")), ["cool", "rest"])
        self.assertEqual(can(DAY, ("dirty",)), ["light", "clean", "cool", "rest"])

    def test_what_holds_behind(self):
        self.assertEqual(done(DAY, ("coins", "hot"), "shop"), ("bread", "hot"))
        self.assertEqual(done(DAY, ("bread", "hot"), "bake"), ("dirty", "hot", "toast"))
        self.assertEqual(done(DAY, ("coins", "hot", "toast"), "cool"), ("coins", "toast"))

    def test_what_is_made_may_hold_and_what_is_ended_may_not(self):
        self.assertEqual(done(DAY, ("bread", "coins"), "shop"), ("bread",))
        self.assertEqual(done(DAY, ("coins",), "cool"), ("coins",))
        self.assertEqual(done(DAY, ("coins",), "rest"), ("coins",))

    def test_order_of_the_book_not_of_the_names(self):
        book = ((), tuple([(name, (), (), (), (), 0) for name in ("z", "a", "m")]))
        self.assertEqual(can(book, ()), ["z", "a", "m"])
        self.assertEqual(can(EMPTY, ()), [])

    def test_every_state_of_many_books(self):
        for book in random_books(2, 2):
            for state in subsets(book[0]):
                doable = model_can(book, state)
                self.assertEqual(can(book, state), doable, (book, state))
                for errand in book[1]:
                    if errand[0] in doable:
                        self.assertEqual(done(book, state, errand[0]), model_done(book, state, errand[0]))
                    else:
                        check_refused(self, NoErrand, done, book, state, errand[0])

    def test_errands_that_cant_be_done(self):
        check_refused(self, NoErrand, done, DAY, (), "shop")
        check_refused(self, NoErrand, done, DAY, ("hot",), "light")
        check_refused(self, NoErrand, done, DAY, ("bread", "dirty", "hot"), "bake")

    def test_names_that_are_none(self):
        for name in odd_things() + ["sho", "shops", "SHOP", "coins", ("shop",), ["shop"], b"shop"]:
            with self.subTest(kind=name.__class__):
                check_refused(self, NoErrand, done, DAY, ("coins",), name)

    def test_states_that_are_none(self):
        for state in BAD_STATES:
            with self.subTest(state=state):
                check_refused(self, NoState, can, DAY, state)
                check_refused(self, NoState, done, DAY, state, "rest")
                check_refused(self, NoState, is_met, DAY, state, EMPTY)

    def test_odd_things_are_no_state(self):
        for thing in odd_things():
            with self.subTest(kind=thing.__class__):
                check_refused(self, NoState, can, DAY, thing)
                check_refused(self, NoState, done, DAY, thing, "rest")
                check_refused(self, NoState, is_met, DAY, thing, EMPTY)

    def test_lists_are_new_ones(self):
        first = can(DAY, ())
        first.append("more")
        self.assertEqual(can(DAY, ()), ["light", "cool", "rest"])


class Wants(unittest.TestCase):
    def test_a_day(self):
        self.assertIs(is_met(DAY, (), ((), ())), True)
        self.assertIs(is_met(DAY, ("bread", "hot"), (("bread",), ("dirty",))), True)
        self.assertIs(is_met(DAY, ("bread", "hot"), (("bread", "hot"), ())), True)
        self.assertIs(is_met(DAY, ("bread", "hot"), (("bread", "toast"), ())), False)
        self.assertIs(is_met(DAY, ("bread", "hot"), ((), ("coins", "hot"))), False)
        self.assertIs(is_met(DAY, ("bread", "hot"), (("bread",), ("hot",))), False)

    def test_every_state_and_want(self):
        book = (("a", "b", "c", "d"), ())
        for state in subsets(book[0]):
            for want in wants_of(book[0]):
                self.assertIs(is_met(book, state, want), model_meets(state, want), (state, want))

    def test_wants_that_are_none(self):
        for want in BAD_WANTS:
            with self.subTest(want=want):
                check_refused(self, NoWant, is_met, DAY, ("coins",), want)

    def test_odd_things_are_no_want(self):
        for thing in odd_things():
            with self.subTest(kind=thing.__class__):
                check_refused(self, NoWant, is_met, DAY, ("coins",), thing)


class Order(unittest.TestCase):
    def test_the_first_named_refusal_comes(self):
        book = (DAY, None, NoBook)
        state = (("coins",), ("none",), NoState)
        check_order(self, checked, [book])
        check_order(self, can, [book, state])
        check_order(self, done, [book, state, ("shop", "none", NoErrand)])
        check_order(self, is_met, [book, state, (EMPTY, None, NoWant)])


if __name__ == "__main__":
    unittest.main()
