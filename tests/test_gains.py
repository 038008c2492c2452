"""What is worth most within some errands (points 1, 13)."""

import copy
import random
import unittest

from errands.errors import NoBook, NoFacts, NoNumber, NoState
from errands.gains import best_gain, best_row
from errands.search import far, within
from tests.helper import (BAD_NUMBERS, BAD_STATES, DAY, EMPTY, EqualToAll, check_order, check_refused,
                          check_wrong_inputs, counter, lively_cases, model_rounds, model_serves, model_states,
                          odd_things, only, random_cases)

GAINS = (("toast", 5), ("coins", 3), ("hot", -1))
# What are no gains over the facts of DAY.
BAD_GAINS = (None, True, 0, "coins", (("coins", 1), ("coins", 1)), (("coins", 1), ("hot", 2), ("coins", 3)),
             (("none", 1),), (("shop", 1),), (("coins", 100),), (("coins", -100),), (("coins", 10 ** 40),),
             (("coins", True),), (("coins", False),), (("coins", None),), (("coins", "1"),), [("coins", 1)], [],
             (["coins", 1],), (("coins",),), (("coins", 1, 1),), ((1, "coins"),), ("coins", 1), ((True, 1),),
             ((None, 1),), ((b"coins", 1),), ((("coins",), 1),), {"coins": 1}, {("coins", 1)}, ((),), (None,),
             (("coins", (1,)),), (("coins", [1]),), ("ab",), (("coins", 1), None), (("", 1),))


def model_worth(state, gains):
    numbers = dict(gains)
    return sum(numbers.get(fact, 0) for fact in state)


def random_gains(chance, facts):
    some = chance.sample(facts, chance.randint(0, len(facts)))
    most = chance.choice((1, 3, 99))
    return tuple([(fact, chance.randint(-most, most)) for fact in some])


def gain_cases(seed, times, many, lively):
    """Tuples (book, state, gains)."""
    chance = random.Random(seed)
    return [(book, state, random_gains(chance, book[0]))
            for book, state, _ in random_cases(seed, times, many) + lively_cases(seed, lively)]


class BestGain(unittest.TestCase):
    def test_a_day(self):
        self.assertEqual([best_gain(DAY, ("coins",), GAINS, most) for most in (0, 1, 2, 3, 4, 64)], [3, 3, 3, 4, 5, 5])
        self.assertEqual(best_row(DAY, ("coins",), GAINS, 2), [])
        self.assertIn(best_row(DAY, ("coins",), GAINS, 3), (["shop", "light", "bake"], ["light", "shop", "bake"]))
        self.assertEqual(len(best_row(DAY, ("coins",), GAINS, 64)), 4)

    def test_a_gain_below_0(self):
        self.assertEqual(best_gain(DAY, ("hot",), (("hot", -7),), 0), -7)
        self.assertEqual(best_gain(DAY, ("hot",), (("hot", -7),), 1), 0)
        self.assertEqual(best_row(DAY, ("hot",), (("hot", -7),), 1), ["cool"])
        self.assertEqual(best_gain(DAY, ("toast",), (("toast", -99),), 64), -99)
        self.assertEqual(best_row(DAY, ("toast",), (("toast", -99),), 64), [])

    def test_no_gains(self):
        for book, state in ((DAY, ("coins",)), (DAY, ()), (EMPTY, ())):
            for most in (0, 1, 64):
                self.assertEqual(best_gain(book, state, (), most), 0)
                self.assertEqual(best_row(book, state, (), most), [])

    def test_facts_in_any_order_with_any_number_from_minus_99_to_99(self):
        for number in range(-99, 100):
            self.assertEqual(best_gain(DAY, ("coins", "hot"), (("hot", 1), ("coins", number)), 0), number + 1)
        self.assertEqual(best_gain((tuple("abcdef"), ()), tuple("abcdef"), tuple((f, 99) for f in "fedcba"), 64), 594)

    def test_the_bounds_of_errands(self):
        book = counter(6, 1)
        gains = tuple([(fact, 1) for fact in book[0]])
        self.assertEqual(best_gain(book, (), gains, 0), 0)
        self.assertEqual(best_gain(book, (), gains, 62), 5)
        self.assertEqual(len(best_row(book, (), gains, 62)), 31)
        for most in (63, 64):
            self.assertEqual(best_gain(book, (), gains, most), 6)
            self.assertEqual(len(best_row(book, (), gains, most)), 63)

    def test_many_books(self):
        below, above, rows = 0, 0, 0
        for book, state, gains in gain_cases(181, 3, 2, 200):
            rounds = model_rounds(book, state)
            for most in (0, 1, 2, 3, 5, 64):
                best = max(model_worth(at, gains) for at in rounds[most])
                told, row = best_gain(book, state, gains, most), best_row(book, state, gains, most)
                self.assertEqual(told, best, (book, state, gains, most))
                self.assertIs(told.__class__, int)
                self.assertIs(row.__class__, list)
                self.assertTrue(model_serves(book, state, EMPTY, row), (book, state, gains, most))
                self.assertEqual(model_worth(model_states(book, state, row)[-1], gains), best)
                fewest = min(number for number in range(65)
                             if any(model_worth(at, gains) == best for at in rounds[number]))
                self.assertEqual(len(row), fewest, (book, state, gains, most))
                self.assertLessEqual(len(row), most)
                below += told < 0
                above += told > 0
                rows += row != []
        self.assertGreater(min(below, above, rows), 100)

    def test_with_more_errands_no_less(self):
        for book, state, gains in gain_cases(182, 2, 1, 100):
            told = [best_gain(book, state, gains, most) for most in range(65)]
            self.assertEqual(told, sorted(told), (book, state, gains))

    def test_of_the_states_within_none_is_worth_more(self):
        for book, state, gains in gain_cases(183, 2, 1, 100):
            for most in (0, 2, 64):
                told = best_gain(book, state, gains, most)
                near = within(book, state, most)
                worths = [best_gain(book, at, gains, 0) for at in near]
                self.assertEqual(max(worths), told)
                best = [at for at, worth in zip(near, worths) if worth == told]
                self.assertEqual(len(best_row(book, state, gains, most)),
                                 min(far(book, state, only(book, at)) for at in best), (book, state, gains, most))


class Refusals(unittest.TestCase):
    def test_wrong_inputs(self):
        # The empty tuple of odd_things would be gains; it is not among them.
        gains = (GAINS, odd_things() + list(BAD_GAINS), NoFacts)
        for function in (best_gain, best_row):
            check_wrong_inputs(self, function, [
                (DAY, odd_things(), NoBook), (("coins",), odd_things() + list(BAD_STATES), NoState), gains,
                (3, BAD_NUMBERS, NoNumber)])

    def test_gains_that_are_none_though_those_ahead_are_fine(self):
        for function in (best_gain, best_row):
            check_refused(self, NoFacts, function, DAY, ("coins",), GAINS + (("dirty", 100),), 3)
            check_refused(self, NoFacts, function, DAY, ("coins",), GAINS + (("toast", 5),), 3)

    def test_what_is_no_word_is_no_fact_though_it_says_that_it_is_equal(self):
        for function in (best_gain, best_row):
            check_refused(self, NoFacts, function, DAY, ("coins",), ((EqualToAll(), 1),), 3)

    def test_facts_of_another_book(self):
        for function in (best_gain, best_row):
            check_refused(self, NoFacts, function, EMPTY, (), (("coins", 1),), 3)

    def test_the_first_named_refusal_comes(self):
        for function in (best_gain, best_row):
            for most in (None, True, 65, -1):
                check_order(self, function, [(DAY, None, NoBook), (("coins",), ("none",), NoState),
                                             (GAINS, (("none", 1),), NoFacts), (3, most, NoNumber)])


class NothingIsKept(unittest.TestCase):
    def test_lists_are_new_ones(self):
        for most in (0, 4):
            first = best_row(DAY, ("coins",), GAINS, most)
            before = copy.deepcopy(first)
            first.append("more")
            self.assertEqual(best_row(DAY, ("coins",), GAINS, most), before)


if __name__ == "__main__":
    unittest.main()
