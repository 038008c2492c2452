"""What must be done, what must hold, and idle errands (points 1, 10)."""

import copy
import random
import unittest

from errands.always import idle, must_do, must_hold
from errands.errors import NoBook, NoState, NoWant, NoWay
from errands.search import reached, shortest
from tests.helper import (BAD_STATES, BAD_WANTS, DAY, EMPTY, check_order, check_refused, check_wrong_inputs, counter,
                          few_facts, lively_cases, model_can, model_far, model_meets, model_rounds, model_states,
                          model_steps, odd_things, random_books, random_cases, serving_rows, subsets)

TOAST = (("toast",), ())
NEVER = (("coins", "toast"), ())
# From a to d by way of b, or by way of c.
FORK = (("a", "b", "c", "d"), (("left", ("a",), (), ("b",), ("a",), 0), ("right", ("a",), (), ("c",), ("a",), 0),
                               ("up", ("b",), (), ("d",), ("b",), 0), ("on", ("c",), (), ("d",), ("c",), 0)))


def without_name(book, name):
    return (book[0], tuple(errand for errand in book[1] if errand[0] != name))


def gathered(book, state, start, gather):
    """Each pair of a state and of all that was gathered on some row there.

    gather: what comes to it by an errand, of its name and the state behind it.
    """
    steps = model_steps(book)
    seen = {(state, frozenset(start))}
    ring = list(seen)
    while ring:
        at, got = ring.pop()
        for name, _, behind in steps[at]:
            further = (behind, got | frozenset(gather(name, behind)))
            if further not in seen:
                seen.add(further)
                ring.append(further)
    return seen


def model_must(book, state, want, start, gather):
    """What was gathered on every row that serves; None, if none does."""
    all_got = [got for at, got in gathered(book, state, start, gather) if model_meets(at, want)]
    return frozenset.intersection(*all_got) if all_got else None


def model_must_do(book, state, want):
    must = model_must(book, state, want, (), lambda name, behind: (name,))
    return None if must is None else [errand[0] for errand in book[1] if errand[0] in must]


def model_must_hold(book, state, want):
    must = model_must(book, state, want, state, lambda name, behind: behind)
    return None if must is None else sorted(must)


def small_cases(seed, times, many, lively):
    return few_facts(random_cases(seed, times, many) + lively_cases(seed, lively), 5)


class MustDo(unittest.TestCase):
    def test_a_day(self):
        self.assertEqual(must_do(DAY, ("coins",), TOAST), ["shop", "light", "bake"])
        self.assertEqual(must_do(DAY, ("bread", "hot"), (("toast",), ("dirty",))), ["bake", "clean", "cool"])
        self.assertEqual(must_do(DAY, ("coins", "hot"), (("hot",), ("coins",))), ["shop"])

    def test_two_ways(self):
        self.assertEqual(must_do(FORK, ("a",), (("d",), ())), [])
        self.assertEqual(must_do(FORK, ("a",), (("b",), ())), ["left"])
        self.assertEqual(must_do(FORK, ("a", "b"), (("c", "d"), ())), ["right", "up"])

    def test_the_state_fulfils_the_want(self):
        for book, state, want in ((DAY, ("coins",), EMPTY), (DAY, ("toast",), TOAST), (EMPTY, (), EMPTY)):
            self.assertEqual(must_do(book, state, want), [])

    def test_an_errand_that_must_be_done_more_than_once_is_told_once(self):
        book = counter(5, 1)
        self.assertEqual(must_do(book, (), (book[0], ())), ["z", "y", "x", "w", "v"])

    def test_order_of_the_book(self):
        for order in ((0, 1, 2), (2, 1, 0), (1, 2, 0)):
            errands = tuple([(("b", "a", "c")[at], (), (), (("x", "y", "z")[at],), (), 0) for at in order])
            self.assertEqual(must_do((("x", "y", "z"), errands), (), (("x", "y", "z"), ())),
                             [errand[0] for errand in errands])

    def test_no_row_serves(self):
        check_refused(self, NoWay, must_do, DAY, (), TOAST)
        check_refused(self, NoWay, must_do, DAY, ("coins",), NEVER)
        check_refused(self, NoWay, must_do, (("a",), ()), (), (("a",), ()))

    def test_many_books(self):
        some, none, free = 0, 0, 0
        for book, state, want in small_cases(101, 3, 3, 400):
            expected = model_must_do(book, state, want)
            if expected is None:
                none += 1
                self.assertIsNone(model_far(book, state, want))
                check_refused(self, NoWay, must_do, book, state, want)
            else:
                told = must_do(book, state, want)
                self.assertIs(told.__class__, list)
                self.assertEqual(told, expected, (book, state, want))
                some += told != []
                free += told == [] and not model_meets(state, want)
        self.assertGreater(min(some, none), 100)
        self.assertGreater(free, 20)

    def test_just_those_without_which_no_row_serves(self):
        for book, state, want in small_cases(102, 2, 2, 200):
            if model_far(book, state, want) is not None:
                told = must_do(book, state, want)
                for errand in book[1]:
                    alone = model_far(without_name(book, errand[0]), state, want)
                    self.assertEqual(alone is None, errand[0] in told, (book, state, want, errand[0]))

    def test_each_row_that_serves_has_them(self):
        chance = random.Random(103)
        longer = 0
        for book, state, want in small_cases(104, 2, 2, 200):
            row = shortest(book, state, want)
            if row is not None:
                told = set(must_do(book, state, want))
                self.assertLessEqual(told, set(row), (book, state, want, row))
                for other in serving_rows(chance, book, state, want):
                    longer += len(other) > len(row)
                    self.assertLessEqual(told, set(other), (book, state, want, other))
        self.assertGreater(longer, 100)


class MustHold(unittest.TestCase):
    def test_a_day(self):
        self.assertEqual(must_hold(DAY, ("coins",), TOAST), ["bread", "coins", "dirty", "hot", "toast"])
        self.assertEqual(must_hold(DAY, ("coins", "hot"), (("hot",), ("coins",))), ["bread", "coins", "hot"])
        self.assertEqual(must_hold(DAY, ("dirty",), ((), ("dirty",))), ["dirty"])

    def test_two_ways(self):
        self.assertEqual(must_hold(FORK, ("a",), (("d",), ())), ["a", "d"])
        self.assertEqual(must_hold(FORK, ("a",), (("d",), ("a", "b", "c"))), ["a", "d"])
        self.assertEqual(must_hold((FORK[0], FORK[1][:3]), ("a",), (("d",), ())), ["a", "b", "d"])

    def test_what_holds_in_between_alone(self):
        book = (("a", "b"), (("make", (), (), ("a",), (), 0), ("end", ("a",), (), ("b",), ("a",), 0)))
        self.assertEqual(must_hold(book, (), (("b",), ("a",))), ["a", "b"])

    def test_what_may_hold_in_between_is_not_told(self):
        book = (("a", "b"), (("make", (), (), ("a",), (), 0), ("end", (), (), ("b",), ("a",), 0)))
        self.assertEqual(must_hold(book, (), (("b",), ("a",))), ["b"])

    def test_the_state_fulfils_the_want(self):
        self.assertEqual(must_hold(DAY, ("coins", "hot"), EMPTY), ["coins", "hot"])
        self.assertEqual(must_hold(DAY, (), ((), ("coins",))), [])
        self.assertEqual(must_hold(EMPTY, (), EMPTY), [])

    def test_no_row_serves(self):
        check_refused(self, NoWay, must_hold, DAY, (), TOAST)
        check_refused(self, NoWay, must_hold, DAY, ("coins",), NEVER)

    def test_many_books(self):
        none, between = 0, 0
        for book, state, want in small_cases(105, 3, 3, 400):
            expected = model_must_hold(book, state, want)
            if expected is None:
                none += 1
                self.assertIsNone(model_far(book, state, want))
                check_refused(self, NoWay, must_hold, book, state, want)
            else:
                told = must_hold(book, state, want)
                self.assertIs(told.__class__, list)
                self.assertEqual(told, expected, (book, state, want))
                self.assertLessEqual(set(state) | set(want[0]), set(told))
                between += set(told) > set(state) | set(want[0])
        self.assertGreater(none, 100)
        self.assertGreater(between, 30)

    def test_they_hold_somewhere_on_each_row_that_serves(self):
        chance = random.Random(106)
        longer = 0
        for book, state, want in small_cases(107, 2, 2, 200):
            row = shortest(book, state, want)
            if row is not None:
                told = set(must_hold(book, state, want))
                for other in [row] + serving_rows(chance, book, state, want):
                    longer += len(other) > len(row)
                    held = set().union(*model_states(book, state, other))
                    self.assertLessEqual(told, held, (book, state, want, other))
        self.assertGreater(longer, 100)


class Idle(unittest.TestCase):
    def test_a_day(self):
        self.assertEqual(idle(DAY, ()), ["shop", "bake", "clean"])
        self.assertEqual(idle(DAY, ("coins",)), [])
        self.assertEqual(idle(DAY, ("dirty",)), ["shop", "bake"])

    def test_what_can_be_done_later_is_not_idle(self):
        self.assertEqual(idle(FORK, ("a",)), [])
        self.assertEqual(idle(FORK, ("b",)), ["left", "right", "on"])
        self.assertEqual(idle(FORK, ()), ["left", "right", "up", "on"])

    def test_no_errands(self):
        self.assertEqual(idle(EMPTY, ()), [])

    def test_an_errand_that_changes_nothing_is_not_idle(self):
        self.assertEqual(idle(((), (("still", (), (), (), (), 0),)), ()), [])

    def test_every_state_of_many_books(self):
        some = 0
        for book in random_books(108, 1) + [case[0] for case in lively_cases(109, 10)]:
            for state in subsets(book[0]):
                states = model_rounds(book, state)[64]
                doable = {name for at in states for name in model_can(book, at)}
                told = idle(book, state)
                self.assertIs(told.__class__, list)
                self.assertEqual(told, [errand[0] for errand in book[1] if errand[0] not in doable], (book, state))
                some += 0 < len(told) < len(book[1])
        self.assertGreater(some, 100)

    def test_without_them_the_same_states_are_reached(self):
        for book, state, _ in random_cases(110, 3, 3) + lively_cases(110, 200):
            told = idle(book, state)
            fewer = (book[0], tuple(errand for errand in book[1] if errand[0] not in told))
            self.assertEqual(reached(fewer, state), reached(book, state), (book, state))


class Refusals(unittest.TestCase):
    def test_wrong_inputs(self):
        book = (DAY, odd_things(), NoBook)
        state = (("coins",), odd_things() + list(BAD_STATES), NoState)
        want = (TOAST, odd_things() + list(BAD_WANTS), NoWant)
        check_wrong_inputs(self, idle, [book, state])
        for function in (must_do, must_hold):
            check_wrong_inputs(self, function, [book, state, want])
            check_wrong_inputs(self, function, [book, state, (TOAST, [NEVER], NoWay)])

    def test_the_first_named_refusal_comes(self):
        book = (DAY, None, NoBook)
        state = (("coins",), ("none",), NoState)
        check_order(self, idle, [book, state])
        for function in (must_do, must_hold):
            check_order(self, function, [book, state, (TOAST, None, NoWant)])
            check_order(self, function, [book, state, (TOAST, NEVER, NoWay)])


class NothingIsKept(unittest.TestCase):
    def test_lists_are_new_ones(self):
        for function, rest in ((must_do, (TOAST,)), (must_hold, (TOAST,)), (must_do, (EMPTY,)), (idle, ())):
            with self.subTest(function=function.__name__):
                first = function(DAY, ("coins",), *rest)
                before = copy.deepcopy(first)
                first.append("more")
                self.assertEqual(function(DAY, ("coins",), *rest), before)


if __name__ == "__main__":
    unittest.main()
