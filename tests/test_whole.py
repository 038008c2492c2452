"""What holds over the whole program (points 1, 2, 4, 6 to 16): refusals, and that nothing is changed or kept."""

import copy
import importlib
import itertools
import random
import unittest

from errands import errors
from errands.errors import (NoBook, NoErrand, NoFacts, NoNumber, NoPaper, NoRow, NoState, NoText, Nothing, NoWant,
                            NoWay, PlanError)
from tests.helper import (BAD_NUMBERS, BAD_ROWS, BAD_STATES, BAD_WANTS, DAY, check_refused, lively_cases, odd_things,
                          random_cases, random_row, random_split, serving_rows, subsets)

# Each function of the interface, with the kinds of what it takes.
INTERFACE = {
    "books": {"checked": "book", "can": "book state", "done": "book state name", "is_met": "book state want"},
    "rows": {"leads": "book state row", "serves": "book state want row", "asked": "book want row", "price": "book row"},
    "search": {"reached": "book state", "within": "book state number", "shortest": "book state want",
               "far": "book state want", "shortest_rows": "book state want"},
    "prices": {"least_price": "book state want", "cheapest": "book state want", "price_paper": "book state want",
               "shown_by": "book state want paper"},
    "pairs": {"apart": "book state", "keeps_apart": "book state pairs"},
    "layers": {"layers": "book state", "hint": "book state want"},
    "always": {"must_do": "book state want", "must_hold": "book state want", "idle": "book state"},
    "sides": {"beside": "book name name", "rounds": "book row"},
    "mends": {"trimmed": "book state want row", "mended": "book state want row"},
    "gains": {"best_gain": "book state gains number", "best_row": "book state gains number"},
    "views": {"seen": "book facts", "with_errand": "book errand", "without_errand": "book name", "back_book": "book"},
    "desk": {"Desk": "book state"},
    "texts": {"shown": "book", "read": "text"},
}
TOAST = (("toast",), ())
PAPER = [(at, 0) for at in subsets(DAY[0])]
GOOD = {"book": DAY, "state": ("coins",), "want": TOAST, "row": ["shop", "light", "bake"], "name": "shop", "number": 3,
        "paper": PAPER, "pairs": [("bread", "coins")], "gains": (("toast", 5),), "facts": ("coins", "hot"),
        "errand": ("shop", (), (), (), (), 0), "text": "facts a"}
REFUSALS = {"book": NoBook, "state": NoState, "want": NoWant, "row": NoRow, "name": NoErrand, "number": NoNumber,
            "paper": NoPaper, "pairs": NoPaper, "gains": NoFacts, "facts": NoFacts, "errand": NoErrand, "text": NoText}
BAD_BOOKS = (None, True, (), DAY[:1], list(DAY), (list(DAY[0]), DAY[1]), (DAY[0], list(DAY[1])), (DAY[0][::-1], DAY[1]),
             (DAY[0][1:], DAY[1]), (DAY[0] + ("x", "y"), DAY[1]), (DAY[0], DAY[1] + (("nap", (), (), (), (), 0),)),
             (DAY[0], DAY[1][:2] * 2), (DAY[0], DAY[1][:5] + (("rest", (), (), (), (), True),)),
             (DAY[0], DAY[1][:5] + (("rest", (), (), (), (), 10),)),
             (DAY[0], DAY[1][:5] + (("rest", ("hot",), ("hot",), (), (), 0),)),
             (DAY[0], DAY[1][:5] + (("rest", (), (), ("hot",), ("hot",), 0),)),
             (DAY[0], DAY[1][:5] + (("Rest", (), (), (), (), 0),)), (DAY[0], None), (None, DAY[1]), "book", 7)
BADS = {"book": BAD_BOOKS, "state": BAD_STATES, "want": BAD_WANTS, "row": BAD_ROWS, "number": BAD_NUMBERS,
        "facts": BAD_STATES, "name": (None, True, "none", "coins", ["shop"]), "paper": (None, (), [], [None]),
        "pairs": (None, (), [None], [("none", "hot")]), "gains": (None, [], (None,), (("none", 1),)),
        "errand": (None, (), DAY[1], ("nap", (), (), (), (), 0)), "text": (None, "", "fact", b"facts", 1)}


def functions():
    """Tuples (function, the kinds of what it takes)."""
    return [(getattr(importlib.import_module("errands." + module), name), kinds.split())
            for module, names in INTERFACE.items() for name, kinds in names.items()]


def parts_of(thing):
    """All lists within what is told, itself too."""
    if not isinstance(thing, (list, tuple)):
        return []
    return ([thing] if isinstance(thing, list) else []) + [some for part in thing for some in parts_of(part)]


def outcome(function, arguments):
    """What is told, or the class and the number of the refusal."""
    try:
        return function(*arguments)
    except PlanError as refusal:
        return (refusal.__class__, getattr(refusal, "number", None))


def whole_cases(seed):
    """Dicts from each kind to a thing of it, over many books."""
    chance = random.Random(seed)
    cases = [GOOD]
    for book, state, want in random_cases(seed, 1, 1) + lively_cases(seed, 30):
        rows = serving_rows(chance, book, state, want) + [random_row(chance, book, 5)]
        needs, bars = random_split(chance, book[0], 2)
        cases.append({
            "book": book, "state": state, "want": want, "row": rows[0], "number": chance.randint(0, 9),
            "name": chance.choice([errand[0] for errand in book[1]] + ["none"]),
            "paper": [(at, 0) for at in subsets(book[0])],
            "pairs": [pair for pair in itertools.product(book[0], repeat=2) if chance.random() < 0.2],
            "gains": tuple([(fact, chance.randint(-99, 99)) for fact in book[0]]),
            "facts": chance.choice(subsets(book[0])), "errand": ("nap", needs, bars, bars, needs, 3),
            "text": "facts " + " ".join(book[0])})
    return cases


class Interface(unittest.TestCase):
    def test_all_is_there(self):
        for function, kinds in functions():
            with self.subTest(function=function.__name__):
                function(*[GOOD[kind] for kind in kinds])


class Refusals(unittest.TestCase):
    def test_the_first_wrong_thing_with_none_in_all_later_places(self):
        for function, kinds in functions():
            for place, kind in enumerate(kinds):
                ahead = [GOOD[one] for one in kinds[:place]]
                # Of the odd things some are whole numbers.
                for bad in list(BADS[kind]) + (odd_things() if kind != "number" else []):
                    with self.subTest(function=function.__name__, place=place, kind=bad.__class__):
                        later = [None] * (len(kinds) - place - 1)
                        refusal = check_refused(self, REFUSALS[kind], function, *ahead, bad, *later)
                        self.check_class(refusal)
                        self.assertIsNone(getattr(refusal, "number", None))

    def check_class(self, refusal):
        """That it is of no other class of refusals than its own and PlanError, and a ValueError."""
        self.assertIsInstance(refusal, ValueError)
        names = [name for name in dir(errors)
                 if isinstance(getattr(errors, name), type) and isinstance(refusal, getattr(errors, name))]
        self.assertEqual(sorted(names), sorted(["PlanError", refusal.__class__.__name__]))

    def test_refusals_that_are_due_to_more_than_one_thing(self):
        desk = importlib.import_module("errands.desk").Desk(DAY, ("coins",))
        always = importlib.import_module("errands.always")
        rows = importlib.import_module("errands.rows")
        never = (("coins", "toast"), ())
        for refusal, function, arguments in (
                (NoWay, always.must_do, (DAY, (), TOAST)), (NoWay, always.must_hold, (DAY, (), TOAST)),
                (NoWay, desk.next_to, (never,)), (NoWay, desk.go_to, (never, True)), (NoErrand, desk.do, ("bake",)),
                (Nothing, desk.take_back, ()), (Nothing, desk.again, ()), (NoWant, desk.go_to, (None, None)),
                (NoWant, desk.next_to, (None,)), (NoRow, rows.leads, (DAY, (), ["shop"]))):
            with self.subTest(function=function.__name__):
                self.check_class(check_refused(self, refusal, function, *arguments))


class NothingIsChangedOrKept(unittest.TestCase):
    def functions(self):
        return [(function, kinds) for function, kinds in functions() if function.__name__ != "Desk"]

    def test_what_is_handed_in_is_not_changed(self):
        for function, kinds in self.functions():
            for case in whole_cases(281):
                arguments = [case[kind] for kind in kinds]
                before = copy.deepcopy(arguments)
                outcome(function, arguments)
                self.assertEqual(arguments, before, function.__name__)

    def test_lists_that_are_told_are_new_ones(self):
        lists = 0
        for function, kinds in self.functions():
            for case in whole_cases(282):
                arguments = [case[kind] for kind in kinds]
                before = copy.deepcopy(arguments)
                told = outcome(function, arguments)
                expected = copy.deepcopy(told)
                for part in parts_of(told):
                    lists += 1
                    part.append("more")
                self.assertEqual(arguments, before, function.__name__)
                self.assertEqual(outcome(function, arguments), expected, function.__name__)
        self.assertGreater(lists, 500)

    def test_equal_things_give_equal_answers(self):
        for function, kinds in self.functions():
            for case in whole_cases(283):
                arguments = [case[kind] for kind in kinds]
                self.assertEqual(outcome(function, copy.deepcopy(arguments)), outcome(function, arguments))

    def test_what_is_asked_in_between_changes_no_answer(self):
        cases = whole_cases(284)[:20]
        asked = [(function, [case[kind] for kind in kinds]) for function, kinds in self.functions() for case in cases]
        expected = [copy.deepcopy(outcome(function, arguments)) for function, arguments in asked]
        order = list(range(len(asked)))
        random.Random(285).shuffle(order)
        for at in order:
            self.assertEqual(outcome(*asked[at]), expected[at], asked[at][0].__name__)


if __name__ == "__main__":
    unittest.main()
