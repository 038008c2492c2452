"""Other books (points 1, 2, 3, 4, 6, 7, 14)."""

import random
import unittest

from errands.always import must_do
from errands.books import checked
from errands.errors import NoBook, NoErrand, NoFacts
from errands.prices import least_price
from errands.search import far, reached
from errands.views import back_book, seen, with_errand, without_errand
from tests.helper import (BAD_STATES, DAY, EMPTY, check_order, check_refused, check_wrong_inputs, counter, lively_cases,
                          model_can, model_done, model_far, model_least, model_rounds, model_serves, model_states,
                          odd_things, only, random_books, random_cases, random_split, random_words,
                          serving_rows, subsets)

NAP = ("nap", ("dirty",), ("hot",), ("coins",), ("toast",), 4)
# What is no errand over the facts of DAY.
BAD_ERRANDS = (None, True, 0, "shop", (), ("nap",), NAP[:5], NAP + (0,), list(NAP), {"nap": 1}, (NAP,), DAY,
               ("Nap",) + NAP[1:], ("",) + NAP[1:], ("abcdefg",) + NAP[1:], (None,) + NAP[1:], (b"nap",) + NAP[1:],
               NAP[:5] + (10,), NAP[:5] + (-1,), NAP[:5] + (True,), NAP[:5] + (None,), NAP[:5] + ("4",),
               NAP[:1] + (("none",),) + NAP[2:], NAP[:1] + (("hot",),) + NAP[2:], NAP[:4] + (("coins",), 4),
               NAP[:1] + (("toast", "coins"),) + NAP[2:], NAP[:1] + (("coins", "coins"),) + NAP[2:],
               NAP[:1] + (["dirty"],) + NAP[2:], NAP[:3] + ("coins",) + NAP[4:], NAP[:2] + (None,) + NAP[3:],
               NAP[:4] + ((True,), 4))


def few(facts, kept):
    return tuple(fact for fact in facts if fact in kept)


def model_seen(book, facts):
    errands = []
    for name, needs, bars, makes, ends, price in book[1]:
        errands.append((name, few(needs, facts), few(bars, facts), few(makes, facts), few(ends, facts), price))
    return (tuple(facts), tuple(errands))


def eased(chance, errand):
    """An errand that needs less, bars less, or is cheaper, or all of it."""
    name, needs, bars, makes, ends, price = errand
    needs = tuple(fact for fact in needs if chance.random() < 0.5)
    bars = tuple(fact for fact in bars if chance.random() < 0.5)
    return (name, needs, bars, makes, ends, chance.randint(0, price))


def turnable_book(chance):
    """A book of which each errand needs all that it ends, and bars all that it makes."""
    facts = tuple(sorted(random_words(chance, chance.randint(0, 6))))
    errands = []
    for name in random_words(chance, chance.randint(0, 6)):
        makes, ends = random_split(chance, facts, chance.randint(1, 4))
        others = [fact for fact in facts if fact not in makes + ends]
        needs, bars = random_split(chance, others, chance.randint(2, 6))
        errands.append((name, tuple(sorted(needs + ends)), tuple(sorted(bars + makes)), makes, ends,
                        chance.randint(0, 9)))
    return (facts, tuple(errands))


def turnable_books(seed, many):
    chance = random.Random(seed)
    return [turnable_book(chance) for _ in range(many)] + [counter(facts, 2) for facts in range(7)]


class Seen(unittest.TestCase):
    def test_a_day(self):
        self.assertEqual(seen(DAY, ("coins", "hot")), (("coins", "hot"), (
            ("shop", ("coins",), (), (), ("coins",), 3),
            ("light", (), ("hot",), ("hot",), (), 1),
            ("bake", ("hot",), (), (), (), 2),
            ("clean", (), ("hot",), (), (), 9),
            ("cool", (), (), (), ("hot",), 0),
            ("rest", (), (), (), (), 0))))

    def test_by_all_facts_and_by_none(self):
        for book in random_books(201, 2):
            self.assertEqual(seen(book, book[0]), book)
            bare = tuple([(errand[0], (), (), (), (), errand[5]) for errand in book[1]])
            self.assertEqual(seen(book, ()), ((), bare))

    def test_by_any_facts_of_many_books(self):
        for book in random_books(202, 1):
            for facts in subsets(book[0]):
                told = seen(book, facts)
                self.assertEqual(told, model_seen(book, facts), (book, facts))
                self.assertEqual(checked(told), told)

    def test_seen_one_time_and_another(self):
        chance = random.Random(203)
        for book in random_books(204, 2):
            facts = chance.choice(subsets(book[0]))
            fewer = chance.choice(subsets(facts))
            self.assertEqual(seen(seen(book, facts), fewer), seen(book, fewer))

    def test_what_are_no_facts(self):
        check_wrong_inputs(self, seen, [(DAY, odd_things(), NoBook),
                                        (("coins",), odd_things() + list(BAD_STATES), NoFacts)])


class SeenRows(unittest.TestCase):
    def cases(self, seed):
        """Tuples (book, state, want, facts)."""
        chance = random.Random(seed)
        return [(book, state, want, chance.choice(subsets(book[0])))
                for book, state, want in random_cases(seed, 3, 3) + lively_cases(seed, 200)]

    def test_rows_lead_through_the_states_that_are_seen(self):
        chance = random.Random(205)
        some = 0
        for book, state, _, facts in self.cases(206):
            view = seen(book, facts)
            for row in serving_rows(chance, book, state, EMPTY)[-3:]:
                some += 1
                self.assertTrue(model_serves(view, few(state, facts), EMPTY, row), (book, state, facts, row))
                self.assertEqual(model_states(view, few(state, facts), row),
                                 [few(at, facts) for at in model_states(book, state, row)])
        self.assertGreater(some, 200)

    def test_what_is_reached_is_seen_as_reached(self):
        for book, state, _, facts in self.cases(207):
            told = reached(seen(book, facts), few(state, facts))
            self.assertLessEqual({few(at, facts) for at in reached(book, state)}, set(told), (book, state, facts))

    def test_a_shortest_row_is_no_longer_there(self):
        some, none = 0, 0
        for book, state, want, facts in self.cases(208):
            view_want = (few(want[0], facts), few(want[1], facts))
            here, there = far(book, state, want), far(seen(book, facts), few(state, facts), view_want)
            if there is None:
                none += 1
                self.assertIsNone(here, (book, state, want, facts))
            elif here is not None:
                some += 1
                self.assertLessEqual(there, here, (book, state, want, facts))
        self.assertGreater(some, 100)
        self.assertGreater(none, 30)


class WithErrand(unittest.TestCase):
    def test_behind_all_others(self):
        book = (DAY[0], DAY[1][:5])
        self.assertEqual(with_errand(book, NAP), (DAY[0], DAY[1][:5] + (NAP,)))
        self.assertEqual(with_errand((DAY[0], ()), NAP), (DAY[0], (NAP,)))

    def test_in_the_place_of_the_one_with_its_name(self):
        for place, errand in enumerate(DAY[1]):
            other = (errand[0],) + NAP[1:]
            self.assertEqual(with_errand(DAY, other), (DAY[0], DAY[1][:place] + (other,) + DAY[1][place + 1:]))
            self.assertEqual(with_errand(DAY, errand), DAY)

    def test_no_more_than_6(self):
        check_refused(self, NoErrand, with_errand, DAY, NAP)
        check_refused(self, NoErrand, with_errand, DAY, ("nap", (), (), (), (), 0))
        self.assertEqual(len(with_errand((DAY[0], DAY[1][1:]), NAP)[1]), 6)

    def test_what_is_no_errand(self):
        book = (DAY[0], DAY[1][:3])
        check_wrong_inputs(self, with_errand, [(book, odd_things(), NoBook),
                                               (NAP, odd_things() + list(BAD_ERRANDS), NoErrand)])
        for bad in BAD_ERRANDS:
            check_refused(self, NoErrand, with_errand, DAY, bad)

    def test_an_errand_over_facts_of_another_book(self):
        check_refused(self, NoErrand, with_errand, EMPTY, NAP)

    def test_many_books(self):
        chance = random.Random(211)
        refused, put, placed = 0, 0, 0
        for facts, errands in random_books(212, 3):
            names = [errand[0] for errand in errands]
            needs, bars = random_split(chance, facts, 2)
            other = (chance.choice(names + ["aazz", "bbyy"]), needs, bars, (), needs, 7)
            if other[0] in names:
                place = names.index(other[0])
                placed += 1
                self.assertEqual(with_errand((facts, errands), other),
                                 (facts, errands[:place] + (other,) + errands[place + 1:]))
            elif len(errands) == 6:
                refused += 1
                check_refused(self, NoErrand, with_errand, (facts, errands), other)
            else:
                put += 1
                self.assertEqual(with_errand((facts, errands), other), (facts, errands + (other,)))
        self.assertGreater(min(put, placed), 20)
        self.assertGreater(refused, 2)


class WithoutErrand(unittest.TestCase):
    def test_a_day(self):
        for place, errand in enumerate(DAY[1]):
            self.assertEqual(without_errand(DAY, errand[0]), (DAY[0], DAY[1][:place] + DAY[1][place + 1:]))

    def test_down_to_none(self):
        book = DAY
        for name in ("cool", "shop", "rest", "bake", "light", "clean"):
            book = without_errand(book, name)
        self.assertEqual(book, (DAY[0], ()))
        check_refused(self, NoErrand, without_errand, book, "shop")

    def test_what_is_no_name(self):
        bads = odd_things() + ["sho", "coins", "nap", b"shop", ("shop",), ["shop"], DAY[1][0]]
        check_wrong_inputs(self, without_errand, [(DAY, odd_things(), NoBook), ("shop", bads, NoErrand)])

    def test_put_in_again(self):
        for book in random_books(213, 1):
            for errand in book[1]:
                others = [other for other in book[1] if other != errand]
                self.assertEqual(with_errand(without_errand(book, errand[0]), errand),
                                 (book[0], tuple(others + [errand])))


class MoreErrands(unittest.TestCase):
    def no_worse(self, more, less, state, want):
        """That with more errands nothing is farther or dearer, and what was reached still is."""
        self.assertLessEqual(set(reached(less, state)), set(reached(more, state)), (more, less, state))
        for function in (far, least_price):
            before, now = function(less, state, want), function(more, state, want)
            if before is not None:
                self.assertIsNotNone(now, (more, less, state, want))
                self.assertLessEqual(now, before, (more, less, state, want))

    def cases(self, seed):
        return random_cases(seed, 2, 2) + lively_cases(seed, 120)

    def test_an_errand_more(self):
        chance = random.Random(221)
        for book, state, want in self.cases(222):
            if len(book[1]) < 6:
                needs, bars = random_split(chance, book[0], 4)
                makes, ends = random_split(chance, book[0], 2)
                more = with_errand(book, ("abcabc", needs, bars, makes, ends, chance.randint(0, 9)))
                self.no_worse(more, book, state, want)

    def test_an_errand_that_needs_less_bars_less_or_is_cheaper(self):
        chance = random.Random(223)
        nearer = 0
        for book, state, want in self.cases(224):
            for errand in book[1]:
                more = with_errand(book, eased(chance, errand))
                self.no_worse(more, book, state, want)
                nearer += far(more, state, want) != far(book, state, want)
        self.assertGreater(nearer, 15)

    def test_what_serves_serves(self):
        chance = random.Random(225)
        some = 0
        for book, state, want in self.cases(226):
            for row in serving_rows(chance, book, state, want)[:3]:
                for errand in book[1]:
                    some += 1
                    self.assertTrue(model_serves(with_errand(book, eased(chance, errand)), state, want, row))
        self.assertGreater(some, 100)

    def test_an_errand_less(self):
        farther = 0
        for book, state, want in self.cases(227):
            for errand in book[1]:
                less = without_errand(book, errand[0])
                self.no_worse(book, less, state, want)
                farther += far(less, state, want) != far(book, state, want)
        self.assertGreater(farther, 100)

    def test_errands_that_every_row_does_stay_such_with_fewer(self):
        some = 0
        for book, state, want in self.cases(228):
            if far(book, state, want) is not None:
                names = must_do(book, state, want)
                for errand in book[1]:
                    less = without_errand(book, errand[0])
                    if far(less, state, want) is None:
                        self.assertIn(errand[0], names)
                    else:
                        self.assertNotIn(errand[0], names)
                        some += names != []
                        self.assertLessEqual(set(names), set(must_do(less, state, want)), (book, state, want))
        self.assertGreater(some, 50)


class TurnedBack(unittest.TestCase):
    def test_an_errand(self):
        book = (("a", "b", "c", "d"), (("go", ("a", "c"), ("b", "d"), ("b",), ("a",), 4),))
        self.assertEqual(back_book(book), (("a", "b", "c", "d"), (("go", ("b", "c"), ("a", "d"), ("a",), ("b",), 4),)))

    def test_books_that_are_turned(self):
        self.assertEqual(back_book(EMPTY), EMPTY)
        self.assertEqual(back_book((("a", "b"), ())), (("a", "b"), ()))
        book = (("a", "b"), (("still", ("a",), ("b",), (), (), 9), ("none", (), (), (), (), 0)))
        self.assertEqual(back_book(book), book)

    def test_an_errand_does_not_tell_what_held_before(self):
        turned = ("go", ("a",), ("b",), ("b",), ("a",), 4)
        for errand in (("no", (), ("b",), ("b",), ("a",), 4), ("no", ("a",), (), ("b",), ("a",), 4),
                       ("no", ("b",), ("a",), ("b",), ("a",), 4), ("no", (), (), ("a",), (), 4),
                       ("no", (), (), (), ("a",), 4), ("no", ("a",), (), (), ("a", "b"), 4),
                       ("no", (), ("a",), ("a", "b"), (), 4), ("no", ("a",), (), ("a",), (), 4),
                       ("no", (), ("a",), (), ("a",), 4)):
            with self.subTest(errand=errand):
                self.assertIsNone(back_book((("a", "b"), (errand,))))
                self.assertIsNone(back_book((("a", "b"), (turned, errand))))
                self.assertIsNone(back_book((("a", "b"), (errand, turned))))
        self.assertIsNone(back_book(DAY))

    def test_none_just_if_an_errand_does_not(self):
        none, some = 0, 0
        for book in random_books(231, 8):
            tells = all(set(ends) <= set(needs) and set(makes) <= set(bars)
                        for _, needs, bars, makes, ends, _ in book[1])
            self.assertEqual(back_book(book) is not None, tells, book)
            none += not tells
            some += tells and book[1] != ()
        self.assertGreater(none, 100)
        self.assertGreater(some, 20)

    def test_turned_back_twice_it_is_the_book(self):
        for book in turnable_books(232, 300):
            back = back_book(book)
            self.assertEqual(checked(back), back)
            self.assertEqual(back_book(back), book)
            self.assertEqual([(errand[0], errand[5]) for errand in back[1]],
                             [(errand[0], errand[5]) for errand in book[1]])

    def test_each_errand_leads_back(self):
        some = 0
        for book in turnable_books(233, 150):
            back = back_book(book)
            for state in subsets(book[0]):
                for name in model_can(book, state):
                    behind = model_done(book, state, name)
                    some += 1
                    self.assertIn(name, model_can(back, behind), (book, state, name))
                    self.assertEqual(model_done(back, behind, name), state)
                for name in model_can(back, state):
                    before = model_done(back, state, name)
                    self.assertIn(name, model_can(book, before), (book, state, name))
                    self.assertEqual(model_done(book, before, name), state)
        self.assertGreater(some, 500)

    def test_a_row_turned_about_leads_back(self):
        chance = random.Random(234)
        some = 0
        for book in turnable_books(235, 300):
            for state in subsets(book[0])[:4]:
                for row in serving_rows(chance, book, state, EMPTY)[-2:]:
                    states = model_states(book, state, row)
                    some += len(row) > 1
                    self.assertTrue(model_serves(back_book(book), states[-1], EMPTY, row[::-1]))
                    self.assertEqual(model_states(back_book(book), states[-1], row[::-1]), states[::-1])
        self.assertGreater(some, 200)

    def test_as_far_and_as_dear_as_back(self):
        chance = random.Random(236)
        some, none = 0, 0
        for book in turnable_books(237, 150):
            back = back_book(book)
            for _ in range(4):
                state = chance.choice(subsets(book[0]))
                other = chance.choice(sorted(model_rounds(book, state)[64]) + subsets(book[0])[:3])
                here = (model_far(book, state, only(book, other)), model_least(book, state, only(book, other)))
                self.assertEqual(far(back, other, only(book, state)), here[0], (book, state, other))
                self.assertEqual(least_price(back, other, only(book, state)), here[1], (book, state, other))
                some += here[0] not in (None, 0)
                none += here[0] is None
        self.assertGreater(min(some, none), 50)

    def test_what_is_no_book(self):
        check_wrong_inputs(self, back_book, [(DAY, odd_things(), NoBook)])


class Refusals(unittest.TestCase):
    def test_the_first_named_refusal_comes(self):
        book = (DAY, None, NoBook)
        check_order(self, seen, [book, (("hot",), ["hot"], NoFacts)])
        check_order(self, with_errand, [book, (DAY[1][0], NAP, NoErrand)])
        check_order(self, with_errand, [book, (DAY[1][0], None, NoErrand)])
        check_order(self, without_errand, [book, ("shop", "none", NoErrand)])
        check_order(self, back_book, [book])


if __name__ == "__main__":
    unittest.main()
