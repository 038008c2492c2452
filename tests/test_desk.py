"""A desk (points 1, 2, 3, 4, 6, 7, 15)."""

import copy
import random
import unittest

from errands.desk import Desk
from errands.errors import NoBook, NoErrand, Nothing, NoState, NoWant, NoWay
from tests.helper import (BAD_STATES, BAD_WANTS, DAY, EMPTY, check_order, check_refused, check_wrong_inputs, counter,
                          lively_cases, model_can, model_done, model_far, model_least, model_meets, model_serves,
                          odd_things, random_cases, random_split, subsets)

TOAST = (("toast",), ())
NEVER = (("coins", "toast"), ())
# One dear errand, or two cheap ones.
DETOUR = (("a", "b"), (("dear", (), (), ("b",), (), 9), ("half", (), (), ("a",), (), 3),
                       ("rest", ("a",), (), ("b",), ("a",), 4)))


class ModelDesk:
    """A desk that does its whole row anew whenever it is asked."""

    def __init__(self, book, start):
        self.book, self.start, self.names, self.undone = book, start, [], []

    def states(self):
        states = [self.start]
        for name in self.names:
            states.append(model_done(self.book, states[-1], name))
        return states

    def price(self):
        prices = {errand[0]: errand[5] for errand in self.book[1]}
        return sum(prices[name] for name in self.names)

    def since(self, fact):
        """The least number from which on the fact holds at all states."""
        states = self.states()
        fitting = [at for at in range(len(states)) if all(fact in state for state in states[at:])]
        return min(fitting, default=None)

    def told(self):
        """All that a desk tells by itself."""
        return (self.states()[-1], list(self.names), self.price(), [self.since(fact) for fact in self.book[0]])


def told_by(desk, book):
    return (desk.state(), desk.row(), desk.spent(), [desk.held_since(fact) for fact in book[0]])


def outcome(function, *arguments):
    """What a deed tells, or the class of its refusal."""
    try:
        return function(*arguments)
    except (NoErrand, Nothing, NoWant, NoWay) as refusal:
        return refusal.__class__


def desk_after(book, state, names):
    desk = Desk(book, state)
    for name in names:
        desk.do(name)
    return desk


def deed_by_chance(chance, desk, model):
    """One deed at the desk and at its model: what the desk tells, and what it should tell."""
    can = model_can(model.book, model.states()[-1])
    deed = chance.choice(("do", "do", "do", "wrong", "back", "back", "again", "again"))
    if deed == "do" and can:
        name = chance.choice(can)
        model.names.append(name)
        model.undone.clear()
        return outcome(desk.do, name), None
    if deed == "back":
        expected = None if model.names else Nothing
        model.undone += model.names[-1:]
        model.names = model.names[:-1]
        return outcome(desk.take_back), expected
    if deed == "again":
        expected = None if model.undone else Nothing
        model.names += model.undone[-1:]
        model.undone = model.undone[:-1]
        return outcome(desk.again), expected
    names = [errand[0] for errand in model.book[1] if errand[0] not in can] + [None, "none", 1, []]
    return outcome(desk.do, chance.choice(names)), NoErrand


class Deeds(unittest.TestCase):
    def test_a_day(self):
        desk = Desk(DAY, ("coins",))
        self.assertEqual(told_by(desk, DAY), (("coins",), [], 0, [None, 0, None, None, None]))
        self.assertIsNone(desk.do("shop"))
        self.assertIsNone(desk.do("light"))
        self.assertEqual(told_by(desk, DAY), (("bread", "hot"), ["shop", "light"], 4, [1, None, None, 2, None]))
        self.assertIsNone(desk.do("bake"))
        self.assertEqual(told_by(desk, DAY),
                         (("dirty", "hot", "toast"), ["shop", "light", "bake"], 6, [None, None, 3, 2, 3]))
        self.assertIsNone(desk.take_back())
        self.assertIsNone(desk.take_back())
        self.assertEqual(told_by(desk, DAY), (("bread",), ["shop"], 3, [1, None, None, None, None]))
        self.assertIsNone(desk.again())
        self.assertEqual(told_by(desk, DAY), (("bread", "hot"), ["shop", "light"], 4, [1, None, None, 2, None]))

    def test_nothing_to_take_back_or_to_do_again(self):
        desk = Desk(DAY, ("coins",))
        check_refused(self, Nothing, desk.take_back)
        check_refused(self, Nothing, desk.again)
        desk.do("shop")
        check_refused(self, Nothing, desk.again)
        desk.take_back()
        check_refused(self, Nothing, desk.take_back)
        desk.again()
        check_refused(self, Nothing, desk.again)
        self.assertEqual(desk.row(), ["shop"])

    def test_what_was_taken_back_comes_again_in_its_order(self):
        desk = desk_after(DAY, ("coins",), ["shop", "light", "bake"])
        for _ in range(3):
            desk.take_back()
        self.assertEqual(desk.state(), ("coins",))
        for many in (1, 2, 3):
            desk.again()
            self.assertEqual(desk.row(), ["shop", "light", "bake"][:many])
        self.assertEqual(desk.state(), ("dirty", "hot", "toast"))

    def test_what_was_taken_back_cant_be_done_again_once_another_errand_is_done(self):
        for name in ("rest", "light"):
            desk = desk_after(DAY, ("coins",), ["shop", "light"])
            desk.take_back()
            desk.do(name)
            check_refused(self, Nothing, desk.again)
            desk.take_back()
            desk.again()
            self.assertEqual(desk.row(), ["shop", name])

    def test_a_refused_errand_changes_nothing(self):
        desk = desk_after(DAY, ("coins",), ["shop", "light"])
        desk.take_back()
        before = told_by(desk, DAY)
        for name in odd_things() + ["shop", "bake", "clean", "coins", b"rest", ("rest",), ["rest"]]:
            check_refused(self, NoErrand, desk.do, name)
        self.assertEqual(told_by(desk, DAY), before)
        desk.again()
        self.assertEqual(desk.row(), ["shop", "light"])

    def test_lists_that_are_told_are_new_ones(self):
        desk = desk_after(DAY, ("coins",), ["shop", "light"])
        desk.row().append("more")
        desk.row().clear()
        self.assertEqual(desk.row(), ["shop", "light"])
        desk.take_back()
        self.assertEqual(desk.row(), ["shop"])
        first = desk.row()
        desk.again()
        self.assertEqual(first, ["shop"])

    def test_more_than_64_errands(self):
        desk = desk_after(DAY, (), ["light", "cool"] * 50)
        self.assertEqual(desk.row(), ["light", "cool"] * 50)
        self.assertEqual(desk.spent(), 50)
        desk.do("light")
        self.assertEqual(desk.held_since("hot"), 101)
        for _ in range(101):
            desk.take_back()
        self.assertEqual(told_by(desk, DAY), ((), [], 0, [None] * 5))
        for _ in range(101):
            desk.again()
        self.assertEqual(desk.spent(), 51)

    def test_the_empty_book(self):
        desk = Desk(EMPTY, ())
        self.assertEqual((desk.state(), desk.row(), desk.spent()), ((), [], 0))
        check_refused(self, NoErrand, desk.do, "shop")

    def test_deeds_by_chance(self):
        chance = random.Random(241)
        refusals = {NoErrand: 0, Nothing: 0, None: 0}
        for book, state, _ in random_cases(242, 1, 2) + lively_cases(242, 60):
            desk, model = Desk(book, state), ModelDesk(book, state)
            for _ in range(25):
                told, expected = deed_by_chance(chance, desk, model)
                self.assertEqual(told, expected)
                self.assertEqual(told_by(desk, book), model.told(), (book, state))
                refusals[expected] += 1
        self.assertGreater(min(refusals.values()), 100)


class HeldSince(unittest.TestCase):
    def test_what_held_at_first(self):
        desk = desk_after(DAY, ("coins", "hot"), ["rest", "shop", "rest"])
        self.assertEqual([desk.held_since(fact) for fact in ("hot", "bread", "coins")], [0, 2, None])

    def test_what_went_and_came_again(self):
        desk = desk_after(DAY, ("hot",), ["cool", "rest", "light", "rest"])
        self.assertEqual(desk.held_since("hot"), 3)
        desk.take_back()
        self.assertEqual(desk.held_since("hot"), 3)
        desk.take_back()
        self.assertIsNone(desk.held_since("hot"))
        desk.take_back()
        desk.take_back()
        self.assertEqual(desk.held_since("hot"), 0)

    def test_what_is_made_while_it_holds_did_not_come_then(self):
        book = (("a",), (("make", (), (), ("a",), (), 0),))
        self.assertEqual(desk_after(book, (), ["make", "make", "make"]).held_since("a"), 1)
        self.assertEqual(desk_after(book, ("a",), ["make"]).held_since("a"), 0)

    def test_what_is_no_fact(self):
        desk = desk_after(DAY, ("coins", "hot"), ["rest"])
        for thing in odd_things() + ["shop", "co", "", ("hot",), ["hot"], b"hot", "Hot", ("coins", "hot")]:
            with self.subTest(kind=thing.__class__):
                self.assertIsNone(desk.held_since(thing))


class Going(unittest.TestCase):
    def test_a_day(self):
        desk = Desk(DAY, ("coins",))
        self.assertEqual(desk.go_to(TOAST, False), 3)
        self.assertIn(desk.row(), (["shop", "light", "bake"], ["light", "shop", "bake"]))
        self.assertEqual(desk.go_to((("toast",), ("dirty",)), True), 2)
        self.assertEqual(desk.row()[3:], ["cool", "clean"])
        self.assertEqual(desk.spent(), 15)
        self.assertEqual(desk.held_since("toast"), 3)

    def test_a_cheap_row_and_a_short_one(self):
        desk = Desk(DETOUR, ())
        self.assertEqual(desk.go_to((("b",), ()), True), 2)
        self.assertEqual((desk.row(), desk.spent()), (["half", "rest"], 7))
        desk = Desk(DETOUR, ())
        self.assertEqual(desk.go_to((("b",), ()), False), 1)
        self.assertEqual((desk.row(), desk.spent()), (["dear"], 9))

    def test_the_first_errand_of_a_shortest_row_not_of_a_cheap_one(self):
        self.assertEqual(Desk(DETOUR, ()).next_to((("b",), ())), "dear")

    def test_the_want_is_fulfilled(self):
        desk = desk_after(DAY, ("coins",), ["shop", "light"])
        desk.take_back()
        for want in (EMPTY, (("bread",), ("coins",))):
            self.assertIsNone(desk.next_to(want))
            for cheap in (True, False):
                self.assertEqual(desk.go_to(want, cheap), 0)
        self.assertEqual(desk.row(), ["shop"])
        # Nothing was done, so what was taken back can still be done again.
        desk.again()
        self.assertEqual(desk.row(), ["shop", "light"])

    def test_what_was_taken_back_is_gone_once_the_desk_went(self):
        for cheap in (True, False):
            desk = desk_after(DAY, ("coins",), ["shop", "light"])
            desk.take_back()
            desk.go_to((("hot",), ()), cheap)
            check_refused(self, Nothing, desk.again)

    def test_asking_for_the_next_errand_does_nothing(self):
        desk = desk_after(DAY, ("coins",), ["shop", "light"])
        desk.take_back()
        self.assertEqual(desk.next_to(TOAST), "light")
        self.assertEqual(desk.row(), ["shop"])
        desk.again()
        self.assertEqual(desk.row(), ["shop", "light"])

    def test_no_row_serves(self):
        desk = desk_after(DAY, ("coins",), ["shop", "light"])
        desk.take_back()
        before = told_by(desk, DAY)
        check_refused(self, NoWay, desk.next_to, NEVER)
        for cheap in (True, False):
            check_refused(self, NoWay, desk.go_to, NEVER, cheap)
        self.assertEqual(told_by(desk, DAY), before)
        desk.again()
        self.assertEqual(desk.row(), ["shop", "light"])

    def test_wants_that_are_none(self):
        desk = desk_after(DAY, ("coins",), ["shop", "light"])
        desk.take_back()
        before = told_by(desk, DAY)
        for want in odd_things() + list(BAD_WANTS):
            with self.subTest(kind=want.__class__):
                check_refused(self, NoWant, desk.next_to, want)
                for cheap in (True, False):
                    check_refused(self, NoWant, desk.go_to, want, cheap)
        self.assertEqual(told_by(desk, DAY), before)
        desk.again()

    def test_as_far_as_can_be(self):
        book = counter(6, 1)
        for cheap in (True, False):
            desk = Desk(book, ())
            self.assertEqual(desk.go_to((book[0], ()), cheap), 63)
            self.assertEqual(desk.spent(), 63)
            check_refused(self, NoWay, desk.go_to, ((), ("a",)), cheap)
            for _ in range(63):
                desk.take_back()
            self.assertEqual(desk.state(), ())

    def test_many_books(self):
        chance = random.Random(251)
        some, none = 0, 0
        for book, state, want in random_cases(252, 2, 3) + lively_cases(252, 200):
            desk = Desk(book, state)
            if model_can(book, state):
                desk.do(chance.choice(model_can(book, state)))
            before = told_by(desk, book)
            start, row = desk.state(), desk.row()
            number = model_far(book, start, want)
            for cheap in (True, False):
                if number is None:
                    none += 1
                    check_refused(self, NoWay, desk.go_to, want, cheap)
                else:
                    some += number > 0
                    self.check_went(desk, book, start, want, cheap, row)
                self.assertEqual(told_by(desk, book), before)
        self.assertGreater(min(some, none), 100)

    def check_went(self, desk, book, start, want, cheap, row):
        """That the desk goes to the want by a fitting row, and back."""
        spent = desk.spent()
        many = desk.go_to(want, cheap)
        self.assertIs(many.__class__, int)
        new = desk.row()[len(row):]
        self.assertEqual((desk.row()[:len(row)], len(new)), (row, many))
        self.assertTrue(model_serves(book, start, want, new), (book, start, want, new))
        self.assertTrue(model_meets(desk.state(), want))
        if cheap:
            self.assertEqual(desk.spent() - spent, model_least(book, start, want), (book, start, want))
        else:
            self.assertEqual(many, model_far(book, start, want), (book, start, want))
        for _ in range(many):
            desk.take_back()

    def test_behind_the_next_errand_the_want_is_one_nearer(self):
        some, none, met = 0, 0, 0
        for book, state, want in random_cases(253, 2, 3) + lively_cases(253, 200):
            desk = Desk(book, state)
            number = model_far(book, state, want)
            if number is None:
                none += 1
                check_refused(self, NoWay, desk.next_to, want)
            elif number == 0:
                met += 1
                self.assertIsNone(desk.next_to(want))
            else:
                some += 1
                for left in range(number - 1, -1, -1):
                    desk.do(desk.next_to(want))
                    self.assertEqual(model_far(book, desk.state(), want), left, (book, state, want))
                self.assertIsNone(desk.next_to(want))
        self.assertGreater(min(some, none, met), 50)


class Refusals(unittest.TestCase):
    def test_bad_books_and_states(self):
        check_wrong_inputs(self, Desk, [(DAY, odd_things(), NoBook),
                                        (("coins",), odd_things() + list(BAD_STATES), NoState)])

    def test_the_first_named_refusal_comes(self):
        check_order(self, Desk, [(DAY, None, NoBook), (("coins",), ("none",), NoState)])


class TwoDesks(unittest.TestCase):
    def test_each_is_as_a_desk_for_itself(self):
        chance = random.Random(261)
        for book, state, _ in random_cases(262, 1, 1) + lively_cases(262, 40):
            starts = [state, state, chance.choice(subsets(book[0]))]
            desks = [Desk(book, start) for start in starts]
            models = [ModelDesk(book, start) for start in starts]
            for _ in range(30):
                at = chance.randrange(3)
                told, expected = deed_by_chance(chance, desks[at], models[at])
                self.assertEqual(told, expected)
                desks[at].row().append("more")
                for desk, model in zip(desks, models):
                    self.assertEqual(told_by(desk, book), model.told(), (book, state))

    def test_behind_the_same_deeds_they_tell_the_same(self):
        chance = random.Random(263)
        for book, state, _ in random_cases(264, 1, 1) + lively_cases(264, 40):
            one, other = Desk(book, state), Desk(copy.deepcopy(book), state)
            for _ in range(8):
                want, cheap = random_split(chance, book[0], 4), chance.choice((True, False))
                name = chance.choice([errand[0] for errand in book[1]] + ["none"])
                for deed in ("next_to", "go_to", "take_back", "do", "again"):
                    given = {"next_to": (want,), "go_to": (want, cheap), "do": (name,)}.get(deed, ())
                    self.assertEqual(outcome(getattr(one, deed), *given), outcome(getattr(other, deed), *given))
                    self.assertEqual(told_by(one, book), told_by(other, book))


if __name__ == "__main__":
    unittest.main()
