"""The least price, and price papers (points 1, 4, 7)."""

import copy
import random
import unittest

from errands.errors import NoBook, NoPaper, NoState, NoWant
from errands.prices import cheapest, least_price, price_paper, shown_by
from errands.rows import price
from errands.search import far, reached, shortest
from tests.helper import (BAD_STATES, BAD_WANTS, DAY, EMPTY, check_order, check_refused, check_wrong_inputs, counter,
                          lively_cases, model_can, model_done, model_least, model_meets, model_serves, model_steps,
                          odd_things, only, random_cases, random_row, subsets, with_prices)

MILLION = 1000000
TOAST = (("toast",), ())
CLEAN_TOAST = (("toast",), ("dirty",))
# One dear errand, or two cheap ones.
DETOUR = (("a", "b"), (("dear", (), (), ("b",), (), 9), ("half", (), (), ("a",), (), 3),
                       ("rest", ("a",), (), ("b",), ("a",), 4), ("away", (), (), (), ("a", "b"), 0)))
# From nothing on: a leads to the want c, b leads nowhere.
FORK = (("a", "b", "c"), (("good", (), ("a", "b"), ("a",), (), 2), ("bad", (), ("a", "b"), ("b",), (), 1),
                          ("on", ("a",), (), ("c",), (), 5)))
FORK_WANT = (("c",), ())
FORK_PAPER = [((), 7), (("a",), 5), (("a", "c"), 0), (("b",), 9)]


def price_cases(seed, times, many):
    """All sorts of cases, every other one with prices of 0 to 2 alone, so that rows of price 0 are among them."""
    cases = random_cases(seed, times, many) + lively_cases(seed, 40 * times * many)
    return [(with_prices(book, lambda errand: errand[5] % 3) if at % 2 else book, state, want)
            for at, (book, state, want) in enumerate(cases)]


def model_shown(book, state, want, paper):
    """The number that the paper shows for the state, or None; the paper has the right form."""
    numbers = dict(paper)
    if len(numbers) != len(paper) or state not in numbers:
        return None
    steps = model_steps(book)
    for at, number in paper:
        if model_meets(at, want) and number != 0:
            return None
        for _, cost, behind in steps[at]:
            if behind not in numbers or number > numbers[behind] + cost:
                return None
    return numbers[state]


def spoilt_papers(chance, book, paper):
    """Papers that are a little other than this one."""
    place = chance.randrange(len(paper))
    at, number = paper[place]
    rest = paper[:place] + paper[place + 1:]
    state = chance.choice(subsets(book[0]))
    return [
        rest, rest + [(at, max(number - 1, 0))], rest + [(at, 0)], rest + [(at, min(number + 1, MILLION))],
        rest + [(at, MILLION)], paper + [(at, number)], paper + [(at, 0)], paper + [(state, 0)],
        rest + [(state, number)], [(one, max(many - 1, 0)) for one, many in paper], [(one, 0) for one, many in paper],
        [(one, min(many + 1, MILLION)) for one, many in paper], paper[::-1],
        paper + [(one, 0) for one in subsets(book[0]) if one not in dict(paper)],
        paper + [(one, MILLION) for one in subsets(book[0]) if one not in dict(paper)],
    ]


class LeastPrice(unittest.TestCase):
    def test_a_day(self):
        self.assertEqual(least_price(DAY, ("coins",), TOAST), 6)
        self.assertIn(cheapest(DAY, ("coins",), TOAST), (["shop", "light", "bake"], ["light", "shop", "bake"]))
        self.assertEqual(least_price(DAY, ("bread", "hot"), CLEAN_TOAST), 11)
        self.assertEqual(cheapest(DAY, ("bread", "hot"), CLEAN_TOAST), ["bake", "cool", "clean"])

    def test_more_errands_may_be_cheaper(self):
        self.assertEqual(least_price(DETOUR, (), (("b",), ())), 7)
        self.assertEqual(cheapest(DETOUR, (), (("b",), ())), ["half", "rest"])
        self.assertEqual(shortest(DETOUR, (), (("b",), ())), ["dear"])

    def test_the_state_itself_fulfils_it(self):
        for book, state, want in ((DAY, ("toast",), TOAST), (DAY, (), EMPTY), (EMPTY, (), EMPTY)):
            self.assertEqual(least_price(book, state, want), 0)
            self.assertEqual(cheapest(book, state, want), [])

    def test_errands_of_price_0(self):
        book = (("a", "b"), (("make", (), ("a",), ("a",), (), 0), ("end", ("a",), (), (), ("a",), 0),
                             ("still", (), (), (), (), 0), ("on", ("a",), (), ("b",), (), 0)))
        self.assertEqual(least_price(book, (), (("b",), ())), 0)
        self.assertLessEqual(len(cheapest(book, (), (("b",), ("a",)))), 3)
        self.assertTrue(model_serves(book, (), (("b",), ("a",)), cheapest(book, (), (("b",), ("a",)))))

    def test_none_serves(self):
        for function in (least_price, cheapest, price_paper):
            self.assertIsNone(function(DAY, (), TOAST))
            self.assertIsNone(function(FORK, ("b",), FORK_WANT))

    def test_as_dear_as_can_be(self):
        for cost in (0, 1, 9):
            book = counter(6, cost)
            want = (book[0], ())
            self.assertEqual(least_price(book, (), want), 63 * cost)
            self.assertEqual(len(cheapest(book, (), want)), 63)
            self.assertEqual(shown_by(book, (), want, price_paper(book, (), want)), 63 * cost)

    def test_many_books(self):
        none, free = 0, 0
        for book, state, want in price_cases(31, 3, 3):
            least, row = least_price(book, state, want), cheapest(book, state, want)
            self.assertEqual(least, model_least(book, state, want), (book, state, want))
            if least is None:
                none += 1
                self.assertIsNone(row)
                self.assertFalse([at for at in reached(book, state) if model_meets(at, want)])
            else:
                free += least == 0 and row != []
                self.assertIs(row.__class__, list)
                self.assertTrue(model_serves(book, state, want, row), (book, state, want, row))
                self.assertEqual(price(book, row), least)
                self.assertLessEqual(least, price(book, shortest(book, state, want)))
        self.assertGreater(none, 50)
        self.assertGreater(free, 5)

    def test_no_row_that_serves_is_cheaper(self):
        chance = random.Random(32)
        for book, state, want in price_cases(33, 4, 4):
            row = random_row(chance, book, 4)
            if model_serves(book, state, want, row):
                self.assertLessEqual(least_price(book, state, want), price(book, row), (book, state, want, row))


class PricePaper(unittest.TestCase):
    def test_a_paper_shows_the_least_price(self):
        for book, state, want in price_cases(34, 3, 3):
            paper = price_paper(book, state, want)
            least = model_least(book, state, want)
            if least is None:
                self.assertIsNone(paper)
            else:
                self.assertIs(paper.__class__, list)
                for entry in paper:
                    self.assertIs(entry.__class__, tuple)
                    self.assertIn(entry[0], subsets(book[0]))
                    self.assertIs(entry[1].__class__, int)
                    self.assertIn(entry[1], range(MILLION + 1))
                self.assertEqual(model_shown(book, state, want, paper), least, (book, state, want, paper))
                self.assertEqual(shown_by(book, state, want, paper), least)

    def test_ways_that_lead_nowhere(self):
        paper = price_paper(FORK, (), FORK_WANT)
        self.assertEqual(shown_by(FORK, (), FORK_WANT, paper), 7)
        self.assertEqual([at for at, _ in paper if at == ("b",)], [("b",)])

    def test_the_smallest(self):
        self.assertEqual(price_paper(EMPTY, (), EMPTY), [((), 0)])


class ShownBy(unittest.TestCase):
    def test_a_fork(self):
        self.assertEqual(shown_by(FORK, (), FORK_WANT, FORK_PAPER), 7)
        self.assertEqual(shown_by(FORK, (), FORK_WANT, FORK_PAPER[::-1]), 7)
        self.assertEqual(shown_by(FORK, ("a",), FORK_WANT, FORK_PAPER), 5)
        self.assertEqual(shown_by(FORK, ("a", "c"), FORK_WANT, FORK_PAPER), 0)
        self.assertEqual(shown_by(FORK, ("b",), FORK_WANT, FORK_PAPER), 9)

    def test_what_is_shown_may_be_less_than_the_least_price(self):
        for paper, number in (([((), 6)] + FORK_PAPER[1:], 6), ([((), 0)] + FORK_PAPER[1:], 0),
                              ([((), 6), (("a",), 4), (("a", "c"), 0), (("b",), 5)], 6)):
            with self.subTest(paper=paper):
                self.assertEqual(shown_by(FORK, (), FORK_WANT, paper), number)

    def test_numbers_up_to_a_million(self):
        self.assertEqual(shown_by(FORK, (), FORK_WANT, FORK_PAPER[:3] + [(("b",), MILLION)]), 7)
        self.assertEqual(shown_by(FORK, ("b",), FORK_WANT, [(("b",), MILLION)]), MILLION)
        for number in (MILLION + 1, -1, 10 ** 40, True, False, None, "9", b"9", (9,), [9]):
            with self.subTest(number=number):
                check_refused(self, NoPaper, shown_by, FORK, (), FORK_WANT, FORK_PAPER[:3] + [(("b",), number)])
                check_refused(self, NoPaper, shown_by, FORK, (), FORK_WANT, [((), number)] + FORK_PAPER[1:])

    def test_true_is_no_1_and_false_no_0(self):
        check_refused(self, NoPaper, shown_by, FORK, (), FORK_WANT, FORK_PAPER[:3] + [(("b",), True)])
        check_refused(self, NoPaper, shown_by, FORK, ("c",), FORK_WANT, [(("c",), False)])

    def test_a_number_is_too_great_by_one(self):
        for paper in ([((), 8)] + FORK_PAPER[1:], FORK_PAPER[:1] + [(("a",), 6)] + FORK_PAPER[2:],
                      FORK_PAPER[:2] + [(("a", "c"), 1)] + FORK_PAPER[3:], FORK_PAPER[:3] + [(("b",), 5)]):
            with self.subTest(paper=paper):
                check_refused(self, NoPaper, shown_by, FORK, (), FORK_WANT, paper)

    def test_states_left_out(self):
        for place in range(4):
            with self.subTest(place=place):
                check_refused(self, NoPaper, shown_by, FORK, (), FORK_WANT,
                              FORK_PAPER[:place] + FORK_PAPER[place + 1:])
        check_refused(self, NoPaper, shown_by, FORK, (), FORK_WANT, [])

    def test_states_put_in(self):
        self.assertEqual(shown_by(FORK, (), FORK_WANT, FORK_PAPER + [(("b", "c"), 0)]), 7)
        self.assertEqual(shown_by(FORK, (), FORK_WANT, [(("a", "b", "c"), 0)] + FORK_PAPER), 7)
        check_refused(self, NoPaper, shown_by, FORK, (), FORK_WANT, FORK_PAPER + [(("b", "c"), 1)])
        check_refused(self, NoPaper, shown_by, FORK, (), FORK_WANT, FORK_PAPER + [(("a", "b"), 0)])

    def test_states_twice(self):
        for entry in FORK_PAPER:
            check_refused(self, NoPaper, shown_by, FORK, (), FORK_WANT, FORK_PAPER + [entry])
            check_refused(self, NoPaper, shown_by, FORK, (), FORK_WANT, [(entry[0], 0)] + FORK_PAPER)

    def test_a_state_without_errands_needs_no_other(self):
        self.assertEqual(shown_by(FORK, ("b",), FORK_WANT, [(("b",), 3)]), 3)
        check_refused(self, NoPaper, shown_by, FORK, ("c", ), FORK_WANT, [(("b",), 3)])

    def test_the_paper_is_for_this_want(self):
        check_refused(self, NoPaper, shown_by, FORK, (), (("b",), ()), FORK_PAPER)
        check_refused(self, NoPaper, shown_by, FORK, (), EMPTY, FORK_PAPER)
        self.assertEqual(shown_by(FORK, (), (("b", "c"), ()), FORK_PAPER), 7)

    def test_what_is_no_paper(self):
        rest = FORK_PAPER[1:]
        for paper in (tuple(FORK_PAPER), dict(FORK_PAPER), set(FORK_PAPER), [[(), 7]] + rest, [([], 7)] + rest,
                      [((), 7, 0)] + rest, [((),)] + rest, [()] + rest, [(7, ())] + rest, [((), 7)] + rest + [None],
                      FORK_PAPER + [(("d",), 0)], FORK_PAPER + [(("c", "b"), 0)], FORK_PAPER + [(("c", "c"), 0)],
                      FORK_PAPER + [(("b", True), 0)], FORK_PAPER + ["ab"], FORK_PAPER + [{(): 7}]):
            with self.subTest(paper=paper):
                check_refused(self, NoPaper, shown_by, FORK, (), FORK_WANT, paper)

    def test_papers_a_little_other(self):
        chance = random.Random(35)
        some, none = 0, 0
        for book, state, want in price_cases(36, 2, 2):
            paper = price_paper(book, state, want) or [(at, 0) for at in reached(book, state)]
            for other in spoilt_papers(chance, book, paper):
                number = model_shown(book, state, want, other)
                if number is None:
                    none += 1
                    check_refused(self, NoPaper, shown_by, book, state, want, other)
                else:
                    some += 1
                    self.assertEqual(shown_by(book, state, want, other), number, (book, state, want, other))
                    least = model_least(book, state, want)
                    self.assertTrue(least is None or number <= least)
        self.assertGreater(min(some, none), 200)


class TwoSteps(unittest.TestCase):
    def test_by_way_of_another_state(self):
        for book, state, want in price_cases(37, 1, 1):
            least = least_price(book, state, want)
            for at in reached(book, state):
                on = least_price(book, at, want)
                if on is not None:
                    self.assertLessEqual(least, least_price(book, state, only(book, at)) + on, (book, state, want))

    def test_behind_one_errand(self):
        for book, state, want in price_cases(38, 2, 3):
            for name in model_can(book, state):
                on = least_price(book, model_done(book, state, name), want)
                if on is not None:
                    self.assertLessEqual(least_price(book, state, want), price(book, [name]) + on)


class PricesChanged(unittest.TestCase):
    def test_twice_as_great(self):
        for book, state, want in random_cases(39, 2, 3) + lively_cases(39, 150):
            low = with_prices(book, lambda errand: errand[5] % 5)
            least = least_price(low, state, want)
            twice = least_price(with_prices(low, lambda errand: errand[5] * 2), state, want)
            self.assertEqual(twice, None if least is None else 2 * least, (low, state, want))

    def test_all_1(self):
        for book, state, want in random_cases(40, 2, 3) + lively_cases(40, 150):
            ones = with_prices(book, lambda errand: 1)
            self.assertEqual(least_price(ones, state, want), far(book, state, want), (book, state, want))

    def test_one_errand_dearer_by_one(self):
        for book, state, want in random_cases(41, 2, 2) + lively_cases(41, 100):
            low = with_prices(book, lambda errand: min(errand[5], 8))
            row = cheapest(low, state, want)
            for name in [errand[0] for errand in low[1]]:
                dearer = with_prices(low, lambda errand: errand[5] + (errand[0] == name))
                told = least_price(dearer, state, want)
                if row is None:
                    self.assertIsNone(told)
                else:
                    self.assertGreaterEqual(told, price(low, row))
                    self.assertLessEqual(told, price(low, row) + row.count(name), (low, state, want, name))


class Refusals(unittest.TestCase):
    def test_wrong_inputs(self):
        book = (DAY, odd_things(), NoBook)
        state = (("coins",), odd_things() + list(BAD_STATES), NoState)
        want = (TOAST, odd_things() + list(BAD_WANTS), NoWant)
        paper = (price_paper(DAY, ("coins",), TOAST), odd_things() + [[thing] for thing in odd_things()], NoPaper)
        for function in (least_price, cheapest, price_paper):
            check_wrong_inputs(self, function, [book, state, want])
        check_wrong_inputs(self, shown_by, [book, state, want, paper])

    def test_odd_things_within_papers(self):
        paper = price_paper(DAY, ("coins",), TOAST)
        for thing in odd_things():
            with self.subTest(kind=thing.__class__):
                check_refused(self, NoPaper, shown_by, DAY, ("coins",), TOAST, paper + [thing])
                check_refused(self, NoPaper, shown_by, DAY, ("coins",), TOAST, paper + [(thing, 0)])
                if thing.__class__ is not int:
                    check_refused(self, NoPaper, shown_by, FORK, ("b",), FORK_WANT, [(("b",), thing)])

    def test_the_first_named_refusal_comes(self):
        book = (DAY, None, NoBook)
        state = (("coins",), ("none",), NoState)
        want = (TOAST, None, NoWant)
        paper = price_paper(DAY, ("coins",), TOAST)
        for function in (least_price, cheapest, price_paper):
            check_order(self, function, [book, state, want])
        check_order(self, shown_by, [book, state, want, (paper, paper + paper, NoPaper)])
        check_order(self, shown_by, [book, state, want, (paper, None, NoPaper)])


class NothingIsKept(unittest.TestCase):
    def test_papers_are_not_changed(self):
        paper = list(FORK_PAPER)
        shown_by(FORK, (), FORK_WANT, paper)
        check_refused(self, NoPaper, shown_by, FORK, ("c",), FORK_WANT, paper)
        self.assertEqual(paper, FORK_PAPER)

    def test_a_paper_that_is_changed_later_is_looked_at_anew(self):
        paper = list(FORK_PAPER)
        self.assertEqual(shown_by(FORK, (), FORK_WANT, paper), 7)
        paper[0] = ((), 4)
        self.assertEqual(shown_by(FORK, (), FORK_WANT, paper), 4)
        paper.pop()
        check_refused(self, NoPaper, shown_by, FORK, (), FORK_WANT, paper)

    def test_lists_are_new_ones(self):
        for function in (cheapest, price_paper):
            for want in (FORK_WANT, EMPTY):
                first = function(FORK, (), want)
                before = copy.deepcopy(first)
                first.append("more")
                self.assertEqual(function(FORK, (), want), before)

    def test_equal_things_give_equal_answers(self):
        for book, state, want in price_cases(42, 1, 1):
            other = copy.deepcopy(book)
            self.assertEqual(cheapest(book, state, want), cheapest(other, state, want))
            self.assertEqual(price_paper(book, state, want), price_paper(other, state, want))


if __name__ == "__main__":
    unittest.main()
