"""Books, states, wants, rows and odd things for the tests, and a plain model to hold the program against."""

import itertools
import random

# A day's errands: the shop gives bread for coins, the oven makes toast of bread.
DAY = (
    ("bread", "coins", "dirty", "hot", "toast"),
    (
        ("shop", ("coins",), (), ("bread",), ("coins",), 3),
        ("light", (), ("hot",), ("hot",), (), 1),
        ("bake", ("bread", "hot"), ("dirty",), ("dirty", "toast"), ("bread",), 2),
        ("clean", ("dirty",), ("hot",), (), ("dirty",), 9),
        ("cool", (), (), (), ("hot",), 0),
        ("rest", (), (), (), (), 0),
    ),
)
EMPTY = ((), ())


class EqualToAll:
    """A thing that says it is equal to everything, and can't be a key."""

    __hash__ = None

    def __eq__(self, other):
        return True


def deep_tuple(depth):
    thing = ()
    for _ in range(depth):
        thing = (thing,)
    return thing


def odd_things():
    """Things that are no book, state, want, name or row of DAY."""
    loop = []
    loop.append(loop)
    return [
        None, True, False, 0, 1, -1, 10 ** 40, "", "coins ", "Coins", "zz", b"", b"coins", ["nope"], [None], [True],
        [["shop"]], [()], loop, {}, {"shop": 1}, set(), {"coins"}, frozenset(("coins",)), object(), EqualToAll(),
        (EqualToAll(),), (EqualToAll(), EqualToAll()), [EqualToAll()], len, str, range(2), iter(()), Ellipsis,
        ValueError("x"), (None,), (True,), (True, False), (1, 2), ("zz",), ("coins", None), (["coins"],), ((),),
        ((), (), ()), deep_tuple(5000), (deep_tuple(5000), ()), ("coins", "bread"), ("coins", "coins"),
    ]


def subsets(facts):
    """Every rising tuple of the facts."""
    return [part for size in range(len(facts) + 1) for part in itertools.combinations(facts, size)]


def wants_of(facts):
    """Every want over the facts."""
    wants = []
    for signs in itertools.product("mb-", repeat=len(facts)):
        must = tuple(fact for fact, sign in zip(facts, signs) if sign == "m")
        bars = tuple(fact for fact, sign in zip(facts, signs) if sign == "b")
        wants.append((must, bars))
    return wants


def random_split(chance, facts, odds):
    """Two rising tuples of the facts with nothing in common."""
    signs = [chance.choice("lr" + "-" * odds) for _ in facts]
    left = tuple(fact for fact, sign in zip(facts, signs) if sign == "l")
    right = tuple(fact for fact, sign in zip(facts, signs) if sign == "r")
    return left, right


def random_word(chance):
    return "".join(chance.choice("abyz") for _ in range(chance.randint(1, 6)))


def random_words(chance, many):
    words = []
    while len(words) < many:
        word = random_word(chance)
        if word not in words:
            words.append(word)
    return words


def random_book(chance, facts_many, errands_many):
    facts = tuple(sorted(random_words(chance, facts_many)))
    errands = []
    for name in random_words(chance, errands_many):
        needs, bars = random_split(chance, facts, chance.randint(1, 6))
        makes, ends = random_split(chance, facts, chance.randint(1, 4))
        errands.append((name, needs, bars, makes, ends, chance.randint(0, 9)))
    return (facts, tuple(errands))


def random_books(seed, times):
    """Books of each number of facts and errands from 0 to 6, so many times."""
    chance = random.Random(seed)
    return [random_book(chance, facts, errands)
            for _ in range(times) for facts in range(7) for errands in range(7)]


def random_row(chance, book, most):
    names = [errand[0] for errand in book[1]]
    if not names:
        return []
    return [chance.choice(names) for _ in range(chance.randint(0, most))]


def model_can(book, state):
    held = set(state)
    return [name for name, needs, bars, _, _, _ in book[1] if set(needs) <= held and not set(bars) & held]


def model_done(book, state, name):
    for other, _, _, makes, ends, _ in book[1]:
        if other == name:
            return tuple(fact for fact in book[0] if fact in makes or (fact in state and fact not in ends))
    raise AssertionError(name)


def model_meets(state, want):
    must, bars = want
    return set(must) <= set(state) and set(bars).isdisjoint(state)


def model_serves(book, state, want, row):
    for name in row:
        if name not in model_can(book, state):
            return False
        state = model_done(book, state, name)
    return model_meets(state, want)


def check_order(case, function, arguments):
    """That of several refusals the first named one comes.

    arguments: for each argument a tuple (a good one, a bad one, the refusal of the bad one).
    """
    for choice in itertools.product((False, True), repeat=len(arguments)):
        handed = [bad if spoilt else good for spoilt, (good, bad, _) in zip(choice, arguments)]
        refusals = [refusal for spoilt, (_, _, refusal) in zip(choice, arguments) if spoilt]
        with case.subTest(function=function.__name__, spoilt=choice):
            if refusals:
                check_refused(case, refusals[0], function, *handed)
            else:
                function(*handed)


def check_refused(case, refusal, function, *arguments):
    """That just this class of refusal comes; the refusal itself is told."""
    with case.assertRaises(refusal) as caught:
        function(*arguments)
    case.assertIs(caught.exception.__class__, refusal)
    return caught.exception
