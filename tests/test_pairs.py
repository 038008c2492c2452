"""Pairs of facts that keep apart (points 1, 8)."""

import copy
import itertools
import random
import unittest

from errands.errors import NoBook, NoPaper, NoState
from errands.pairs import apart, keeps_apart
from tests.helper import (BAD_STATES, DAY, EMPTY, check_order, check_refused, check_wrong_inputs, counter, lively_cases,
                          model_rounds, odd_things, random_book, random_books, random_cases, subsets)

AB = ("a", "b")
# Two lamps of which one burns: each is lit only where the other one is dark, or goes out.
LAMPS = (("left", "right"), (("turn", ("left",), (), ("right",), ("left",), 1),
                             ("back", ("right",), (), ("left",), ("right",), 1)))


def errand(name, needs="", bars="", makes="", ends=""):
    return (name, tuple(needs), tuple(bars), tuple(makes), tuple(ends), 1)


def book_of(facts, *errands):
    return (tuple(facts), errands)


# From a to b and back, so that never both hold.
SWAP = (errand("go", needs="a", makes="b", ends="a"), errand("back", needs="b", makes="a", ends="b"))


def pairs_over(facts):
    return list(itertools.combinations_with_replacement(facts, 2))


def model_ahead(errand, pair):
    """What must hold ahead of the errand, so that the pair comes together behind it; None, if it never does so."""
    _, needs, bars, makes, ends, _ = errand
    facts = set(pair)
    carried = facts - set(makes)
    if carried == facts or facts & set(ends) or carried & set(bars):
        return None
    return set(needs) | carried


def model_keeps(book, state, pairs):
    """Whether the pairs keep apart, word by word as the document tells."""
    if any(set(pair) <= set(state) for pair in pairs):
        return False
    for pair in pairs:
        for one in book[1]:
            ahead = model_ahead(one, pair)
            if ahead is not None and not any(set(other) <= ahead for other in pairs):
                return False
    return True


def model_apart(book, state):
    """The greatest list, from below: all pairs but those that may come together by those that may so far."""
    together = {pair for pair in pairs_over(book[0]) if set(pair) <= set(state)}
    grown = True
    while grown:
        grown = False
        for pair in pairs_over(book[0]):
            for one in book[1]:
                ahead = model_ahead(one, pair)
                if pair not in together and ahead is not None and set(pairs_over(sorted(ahead))) <= together:
                    together.add(pair)
                    grown = True
    return [pair for pair in pairs_over(book[0]) if pair not in together]


class Apart(unittest.TestCase):
    def test_lamps(self):
        self.assertEqual(apart(LAMPS, ("left",)), [("left", "right")])
        self.assertEqual(apart(LAMPS, ()), [("left", "left"), ("left", "right"), ("right", "right")])
        self.assertEqual(apart(LAMPS, ("left", "right")), [])

    def test_a_day(self):
        self.assertEqual(apart(DAY, ("coins",)), [("bread", "coins"), ("bread", "dirty"), ("bread", "toast"),
                                                  ("coins", "dirty"), ("coins", "toast")])

    def test_without_errands_all_that_does_not_hold(self):
        self.assertEqual(apart(EMPTY, ()), [])
        self.assertEqual(apart((AB, ()), ("a",)), [("a", "b"), ("b", "b")])
        self.assertEqual(apart((tuple("abcdef"), ()), ()), pairs_over("abcdef"))
        self.assertEqual(apart((tuple("abcdef"), ()), tuple("abcdef")), [])

    def test_a_fact_that_is_made_beside_one_that_holds(self):
        self.assertEqual(apart(book_of("ab", errand("go", makes="b")), ("a",)), [])

    def test_an_errand_that_bars_the_other_one(self):
        self.assertEqual(apart(book_of("ab", errand("go", makes="b", bars="a")), ("a",)), [AB])

    def test_an_errand_that_ends_the_other_one(self):
        self.assertEqual(apart(book_of("ab", errand("go", makes="b", ends="a")), ("a",)), [AB])

    def test_an_errand_that_makes_both(self):
        self.assertEqual(apart(book_of("ab", errand("go", makes="ab")), ()), [])
        self.assertEqual(apart(book_of("ab", errand("go", bars="ab", makes="ab")), ()), [])

    def test_what_an_errand_needs_never_comes(self):
        self.assertEqual(apart(book_of("abc", errand("go", needs="c", makes="b")), ("a",)),
                         [AB, ("a", "c"), ("b", "b"), ("b", "c"), ("c", "c")])

    def test_what_an_errand_needs_never_comes_together(self):
        self.assertEqual(apart(book_of("abc", *SWAP, errand("both", needs="ab", makes="c")), ("a",)),
                         [AB, ("a", "c"), ("b", "c"), ("c", "c")])

    def test_what_an_errand_needs_never_comes_together_with_the_other_one(self):
        told = apart(book_of("abc", *SWAP, errand("mark", needs="a", makes="c"), errand("wipe", makes="a", ends="bc")),
                     ("a",))
        self.assertEqual(told, [AB])
        told = apart(book_of("abc", errand("go", needs="a", makes="b", ends="ac"),
                             errand("back", needs="b", makes="a", ends="b"), errand("mark", needs="a", makes="c")),
                     ("a",))
        self.assertEqual(told, [AB, ("b", "c")])

    def test_more_never_comes_together_than_pairs_tell(self):
        # a, b and c never hold all at once, but each two of them do: no list of pairs tells that of d.
        book = book_of("abcd", errand("one", bars="a", makes="bc", ends="a"), errand("two", makes="ac", ends="b"),
                       errand("three", makes="ab", ends="c"), errand("all", needs="abc", makes="d"))
        self.assertEqual(apart(book, ()), [])
        self.assertFalse([at for at in model_rounds(book, ())[64] if "d" in at])

    def test_a_counter_keeps_nothing_apart(self):
        self.assertEqual(apart(counter(6, 1), ()), [])

    def test_many_books(self):
        some = 0
        cases = random_cases(51, 3, 3) + lively_cases(52, 400)
        for book, state, _ in cases:
            told = apart(book, state)
            self.assertIs(told.__class__, list)
            self.assertEqual(told, model_apart(book, state), (book, state))
            self.assertEqual(told, sorted(told))
            self.assertTrue(all(low <= high for low, high in told))
            self.assertTrue(model_keeps(book, state, told), (book, state))
            self.assertIs(keeps_apart(book, state, told), True)
            for at in model_rounds(book, state)[64]:
                self.assertFalse([pair for pair in told if set(pair) <= set(at)], (book, state, at))
            some += 0 < len(told) < len(pairs_over(book[0]))
        self.assertGreater(some, 200)

    def test_each_state_of_some_books(self):
        for book in random_books(53, 1):
            for state in subsets(book[0]):
                self.assertEqual(apart(book, state), model_apart(book, state), (book, state))

    def test_no_other_pairs_can_be_put_to_them(self):
        chance = random.Random(54)
        for _ in range(60):
            book = random_book(chance, chance.randint(1, 3), chance.randint(0, 5))
            pairs = pairs_over(book[0])
            for state in subsets(book[0]):
                lists = [some for many in range(len(pairs) + 1) for some in itertools.combinations(pairs, many)]
                keeping = [some for some in lists if model_keeps(book, state, some)]
                self.assertEqual(tuple(apart(book, state)), max(keeping, key=len), (book, state))
                together = set(itertools.chain(*keeping))
                self.assertEqual(set(apart(book, state)), together)

    def test_more_pairs_of_larger_books(self):
        chance = random.Random(55)
        for book, state, _ in lively_cases(56, 100):
            told = apart(book, state)
            others = [pair for pair in pairs_over(book[0]) if pair not in told]
            for _ in range(4):
                more = chance.sample(others, chance.randint(1, len(others))) if others else []
                self.assertIs(keeps_apart(book, state, told + more), not more, (book, state, more))


class KeepsApart(unittest.TestCase):
    def test_lamps(self):
        self.assertIs(keeps_apart(LAMPS, ("left",), [("left", "right")]), True)
        self.assertIs(keeps_apart(LAMPS, ("left",), [("right", "left")]), True)
        self.assertIs(keeps_apart(LAMPS, ("left", "right"), [("left", "right")]), False)
        self.assertIs(keeps_apart(LAMPS, ("left",), [("right", "right")]), False)
        self.assertIs(keeps_apart(LAMPS, ("left",), [("left", "left")]), False)
        self.assertIs(keeps_apart(LAMPS, (), [("left", "left")]), False)
        self.assertIs(keeps_apart(LAMPS, (), [("right", "right"), ("left", "left")]), True)

    def test_no_pairs(self):
        for book, state in ((EMPTY, ()), (DAY, ("coins",)), (LAMPS, ("left", "right"))):
            self.assertIs(keeps_apart(book, state, []), True)

    def test_fewer_may_fail_where_more_do_not(self):
        book = book_of("abc", *SWAP, errand("both", needs="ab", makes="c"))
        self.assertIs(keeps_apart(book, ("a",), [AB, ("c", "c")]), True)
        self.assertIs(keeps_apart(book, ("a",), [("c", "c")]), False)
        self.assertIs(keeps_apart(book, ("a",), [AB]), True)

    def test_a_pair_in_the_list_counts_against_others_whichever_way_about(self):
        book = book_of("abc", *SWAP, errand("both", needs="ab", makes="c"))
        for pairs in ([("c", "c"), ("b", "a")], [("b", "a"), ("c", "c")], [("a", "b"), ("b", "a"), ("c", "c")]):
            self.assertIs(keeps_apart(book, ("a",), pairs), True)

    def test_a_pair_twice(self):
        self.assertIs(keeps_apart(LAMPS, ("left",), [("left", "right")] * 3), True)
        self.assertIs(keeps_apart(LAMPS, ("left",), [("right", "right")] * 2), False)

    def test_any_order_fewer_more_and_turned_about(self):
        chance = random.Random(57)
        true, false = 0, 0
        for book, state, _ in random_cases(58, 2, 2) + lively_cases(59, 200):
            pairs = pairs_over(book[0])
            told = apart(book, state)
            lists = [told[::-1], told[1:], told[:-1], chance.sample(told, len(told) // 2),
                     chance.sample(told, max(len(told) - 1, 0)), told + pairs[:1], told + pairs[-1:],
                     chance.sample(pairs, chance.randint(0, len(pairs))), chance.sample(pairs, min(len(pairs), 2))]
            for some in lists:
                expected = model_keeps(book, state, some)
                turned = [pair[::chance.choice((1, -1))] for pair in some]
                self.assertIs(keeps_apart(book, state, some), expected, (book, state, some))
                self.assertIs(keeps_apart(book, state, turned), expected, (book, state, turned))
                true += expected
                false += not expected
        self.assertGreater(min(true, false), 200)

    def test_what_is_no_list_of_pairs(self):
        for pairs in (None, True, 0, "ab", (), (AB,), {AB}, {"a": "b"}, [None], [("a",)], [("a", "b", "b")],
                      [["a", "b"]], ["ab"], [{"a", "b"}], [("a", "d")], [("d", "d")], [("a", None)], [("a", True)],
                      [(1, 2)], [(b"a", b"b")], [("go", "a")], [AB, None], [AB, ("a", ("b",))], [[]], [()], [[AB]],
                      [("", "a")]):
            with self.subTest(pairs=pairs):
                check_refused(self, NoPaper, keeps_apart, book_of("abc", errand("go", makes="ab")), (), pairs)

    def test_it_is_no_list_of_pairs_though_those_ahead_do_not_keep_apart(self):
        check_refused(self, NoPaper, keeps_apart, LAMPS, ("left",), [("left", "left"), None])

    def test_many_pairs(self):
        self.assertIs(keeps_apart(LAMPS, ("left",), [("left", "right"), ("right", "left")] * 5000), True)


class Refusals(unittest.TestCase):
    def test_wrong_inputs(self):
        book = (DAY, odd_things(), NoBook)
        state = (("coins",), odd_things() + list(BAD_STATES), NoState)
        good = [("bread", "coins")]
        bads = odd_things() + [[thing] for thing in odd_things() if thing != ("coins", "bread")
                               and thing != ("coins", "coins")] + [[("coins", thing)] for thing in odd_things()]
        check_wrong_inputs(self, apart, [book, state])
        check_wrong_inputs(self, keeps_apart, [book, state, (good, bads, NoPaper)])

    def test_the_first_named_refusal_comes(self):
        book = (DAY, None, NoBook)
        state = (("coins",), ("none",), NoState)
        check_order(self, apart, [book, state])
        check_order(self, keeps_apart, [book, state, ([], None, NoPaper)])
        check_order(self, keeps_apart, [book, state, ([("hot", "hot")], [("hot", "none")], NoPaper)])


class NothingIsKept(unittest.TestCase):
    def test_lists_are_not_changed(self):
        pairs = [("right", "left"), ("left", "right"), ("right", "left")]
        before = copy.deepcopy(pairs)
        keeps_apart(LAMPS, ("left",), pairs)
        self.assertEqual(pairs, before)
        pairs.append(("left", "left"))
        self.assertIs(keeps_apart(LAMPS, ("left",), pairs), False)

    def test_lists_are_new_ones(self):
        first = apart(LAMPS, ("left",))
        first.append("more")
        self.assertEqual(apart(LAMPS, ("left",)), [("left", "right")])

    def test_equal_things_give_equal_answers(self):
        for book, state, _ in random_cases(60, 1, 1):
            self.assertEqual(apart(book, state), apart(copy.deepcopy(book), state))


if __name__ == "__main__":
    unittest.main()
