"""Books, states, wants, rows and odd things for the tests, and a plain model to hold the program against."""

import itertools
import random

# A day's errands: the shop gives bread for coins, the oven makes toast of bread.
DAY = (
    ("bread", "coins", "dirty", "hot", "toast"),
    (
        ("shop", ("coins",), (), ("bread",), ("coins",), 3),
        ("light", (), ("hot",), ("hot",), (), 1),
        ("bake", ("bread", "hot"), ("dirty",), ("dirty", "toast"), ("bread",), 2),
        ("clean", ("dirty",), ("hot",), (), ("dirty",), 9),
        ("cool", (), (), (), ("hot",), 0),
        ("rest", (), (), (), (), 0),
    ),
)
EMPTY = ((), ())
# What is no state of DAY, no want, and no row.
BAD_STATES = (None, True, 0, "coins", ["coins"], ["bread", "coins"], ("coins", "bread"), ("coins", "coins"),
              ("shop",), ("bread", "none"), (1,), (True,), (None,), (b"coins",), (("coins",),), {"coins"}, ("",))
BAD_WANTS = (None, True, (), ((),), ((), (), ()), [(), ()], ([], ()), ((), []), (("coins",), ("coins",)),
             (("bread", "coins"), ("coins", "hot")), (("coins", "bread"), ()), ((), ("coins", "bread")),
             (("coins", "coins"), ()), ((), ("hot", "hot")), (("none",), ()), ((), ("none",)), (("shop",), ()),
             ("coins", "hot"), "ab", (None, ()), ((), None), ((1,), ()), ((), (True,)), {"must": ()})
BAD_ROWS = (None, True, 0, "shop", "", (), ("shop",), {"shop"}, {"shop": 1}, ["none"], ["shop", "none"], ["coins"],
            [None], [True], [0], [b"shop"], [["shop"]], [("shop",)], ["rest"] * 65, ["Shop"], [""])
# What is no whole number from 0 to 64.
BAD_NUMBERS = (None, True, False, -1, 65, 10 ** 40, -10 ** 40, "0", "64", b"1", (1,), [1], {1}, {1: 1}, "", (),
               object())


class EqualToAll:
    """A thing that says it is equal to everything, and can't be a key."""

    __hash__ = None

    def __eq__(self, other):
        return True


def deep_tuple(depth):
    thing = ()
    for _ in range(depth):
        thing = (thing,)
    return thing


def odd_things():
    """Things that are no book, state, want, name or row of DAY."""
    loop = []
    loop.append(loop)
    return [
        None, True, False, 0, 1, -1, 10 ** 40, "", "coins ", "Coins", "zz", b"", b"coins", ["nope"], [None], [True],
        [["shop"]], [()], loop, {}, {"shop": 1}, set(), {"coins"}, frozenset(("coins",)), object(), EqualToAll(),
        (EqualToAll(),), (EqualToAll(), EqualToAll()), [EqualToAll()], len, str, range(2), iter(()), Ellipsis,
        ValueError("x"), (None,), (True,), (True, False), (1, 2), ("zz",), ("coins", None), (["coins"],), ((),),
        ((), (), ()), deep_tuple(5000), (deep_tuple(5000), ()), ("coins", "bread"), ("coins", "coins"),
    ]


def subsets(facts):
    """Every rising tuple of the facts."""
    return [part for size in range(len(facts) + 1) for part in itertools.combinations(facts, size)]


def wants_of(facts):
    """Every want over the facts."""
    wants = []
    for signs in itertools.product("mb-", repeat=len(facts)):
        must = tuple(fact for fact, sign in zip(facts, signs) if sign == "m")
        bars = tuple(fact for fact, sign in zip(facts, signs) if sign == "b")
        wants.append((must, bars))
    return wants


def random_split(chance, facts, odds):
    """Two rising tuples of the facts with nothing in common."""
    signs = [chance.choice("lr" + "-" * odds) for _ in facts]
    left = tuple(fact for fact, sign in zip(facts, signs) if sign == "l")
    right = tuple(fact for fact, sign in zip(facts, signs) if sign == "r")
    return left, right


def random_word(chance):
    return "".join(chance.choice("abyz") for _ in range(chance.randint(1, 6)))


def random_words(chance, many):
    words = []
    while len(words) < many:
        word = random_word(chance)
        if word not in words:
            words.append(word)
    return words


def random_book(chance, facts_many, errands_many):
    facts = tuple(sorted(random_words(chance, facts_many)))
    errands = []
    for name in random_words(chance, errands_many):
        needs, bars = random_split(chance, facts, chance.randint(1, 6))
        makes, ends = random_split(chance, facts, chance.randint(1, 4))
        errands.append((name, needs, bars, makes, ends, chance.randint(0, 9)))
    return (facts, tuple(errands))


def random_books(seed, times):
    """Books of each number of facts and errands from 0 to 6, so many times."""
    chance = random.Random(seed)
    return [random_book(chance, facts, errands)
            for _ in range(times) for facts in range(7) for errands in range(7)]


def random_cases(seed, times, many):
    """Tuples (book, state, want): of each of random_books as many as told."""
    chance = random.Random(seed)
    cases = []
    for book in random_books(seed, times):
        for _ in range(many):
            state = chance.choice(subsets(book[0]))
            cases.append((book, state, random_split(chance, book[0], chance.randint(0, 4))))
    return cases


def few_facts(cases, most):
    """Those of the cases that have a book of up to so many facts."""
    return [case for case in cases if len(case[0][0]) <= most]


def random_parts(chance, facts, most_left, most_right):
    """Two rising tuples of the facts with nothing in common, of no more facts than told."""
    left = chance.sample(facts, chance.randint(0, most_left))
    others = [fact for fact in facts if fact not in left]
    right = chance.sample(others, chance.randint(0, min(most_right, len(others))))
    return tuple(sorted(left)), tuple(sorted(right))


def lively_book(chance):
    """A book with few facts in each errand, so that long rows lead to many states."""
    facts = tuple("abcdef"[:chance.randint(3, 6)])
    errands = []
    for name in ("v", "w", "x", "y", "z", "zz")[:chance.randint(4, 6)]:
        needs, bars = random_parts(chance, facts, 2, 1)
        made = chance.choice(facts)
        ends = random_parts(chance, [fact for fact in facts if fact != made], 2, 0)[0]
        errands.append((name, needs, bars, (made,), ends, chance.choice((0, 0, 1, 2, 5, 9))))
    return (facts, tuple(errands))


def lively_cases(seed, many):
    """Tuples (book, state, want): at least six states are reached, and most wants can be served."""
    chance = random.Random(seed)
    cases = []
    while len(cases) < many:
        book = lively_book(chance)
        state = chance.choice(subsets(book[0])[:4])
        states = sorted(model_rounds(book, state)[64])
        if len(states) >= 6:
            goal = chance.choice(states)
            must = chance.sample(goal, chance.randint(len(goal) // 2, len(goal)))
            others = [fact for fact in book[0] if fact not in must and chance.random() < 0.4]
            bars = [fact for fact in others if fact not in goal or len(cases) % 4 == 0]
            cases.append((book, state, (tuple(sorted(must)), tuple(sorted(bars)))))
    return cases


def counter(many, price):
    """A book that counts: each errand adds one, so that the last of all states is as far off as can be."""
    facts = tuple("abcdef"[:many])
    return (facts, tuple([("zyxwvu"[at], facts[:at], (fact,), (fact,), facts[:at], price)
                          for at, fact in enumerate(facts)]))


def only(book, state):
    """The want that this state alone fulfils."""
    return (state, tuple(fact for fact in book[0] if fact not in state))


def with_prices(book, price_of):
    """The book with the price that price_of tells of each errand."""
    return (book[0], tuple([errand[:5] + (price_of(errand),) for errand in book[1]]))


def random_row(chance, book, most):
    names = [errand[0] for errand in book[1]]
    if not names:
        return []
    return [chance.choice(names) for _ in range(chance.randint(0, most))]


def model_can(book, state):
    held = set(state)
    return [name for name, needs, bars, _, _, _ in book[1] if set(needs) <= held and not set(bars) & held]


def model_done(book, state, name):
    for other, _, _, makes, ends, _ in book[1]:
        if other == name:
            return tuple(fact for fact in book[0] if fact in makes or (fact in state and fact not in ends))
    raise AssertionError(name)


def model_meets(state, want):
    must, bars = want
    return set(must) <= set(state) and set(bars).isdisjoint(state)


def model_serves(book, state, want, row):
    for name in row:
        if name not in model_can(book, state):
            return False
        state = model_done(book, state, name)
    return model_meets(state, want)


def model_states(book, state, row):
    """The states through which a row leads that can be done."""
    states = [state]
    for name in row:
        states.append(model_done(book, states[-1], name))
    return states


def serving_rows(chance, book, state, want):
    """Some rows that serve: walks by chance, cut off at each state that fulfils the want."""
    rows = []
    for _ in range(6):
        row, at = [], state
        while len(row) < 12 and model_can(book, at):
            row.append(chance.choice(model_can(book, at)))
            at = model_done(book, at, row[-1])
            if model_meets(at, want):
                rows.append(list(row))
    return rows


def model_steps(book):
    """For each state of the book the list of tuples (name, price, state behind)."""
    prices = {errand[0]: errand[5] for errand in book[1]}
    return {state: [(name, prices[name], model_done(book, state, name)) for name in model_can(book, state)]
            for state in subsets(book[0])}


def model_rounds(book, state):
    """For each number from 0 to 64 the set of the states to which a row of up to so many errands leads."""
    steps = model_steps(book)
    rounds = [{state}]
    for _ in range(64):
        # Behind a round that brings nothing new none does.
        still = len(rounds) > 1 and rounds[-1] == rounds[-2]
        rounds.append(rounds[-1] if still else rounds[-1] | {
            behind for at in rounds[-1] for _, _, behind in steps[at]})
    return rounds


def model_far(book, state, want):
    for number, states in enumerate(model_rounds(book, state)):
        if any(model_meets(at, want) for at in states):
            return number
    return None


def model_least(book, state, want):
    """The least price over all rows of up to 63 errands: behind more some state came twice, and nothing is below 0."""
    steps = model_steps(book)
    costs = {state: 0}
    found = []
    for _ in range(64):
        found += [cost for at, cost in costs.items() if model_meets(at, want)]
        further = {}
        for at, cost in costs.items():
            for _, price, behind in steps[at]:
                further[behind] = min(cost + price, further.get(behind, cost + price))
        costs = further
    return min(found, default=None)


def check_wrong_inputs(case, function, arguments):
    """That whatever is wrong is refused, the other arguments being right.

    arguments: for each argument a tuple (a good one, bad ones, the refusal of the bad ones).
    """
    goods = [good for good, _, _ in arguments]
    function(*goods)
    for place, (_, bads, refusal) in enumerate(arguments):
        for bad in bads:
            with case.subTest(function=function.__name__, place=place, kind=bad.__class__):
                check_refused(case, refusal, function, *goods[:place], bad, *goods[place + 1:])


def check_order(case, function, arguments):
    """That of several refusals the first named one comes.

    arguments: for each argument a tuple (a good one, a bad one, the refusal of the bad one).
    """
    for choice in itertools.product((False, True), repeat=len(arguments)):
        handed = [bad if spoilt else good for spoilt, (good, bad, _) in zip(choice, arguments)]
        refusals = [refusal for spoilt, (_, _, refusal) in zip(choice, arguments) if spoilt]
        with case.subTest(function=function.__name__, spoilt=choice):
            if refusals:
                check_refused(case, refusals[0], function, *handed)
            else:
                function(*handed)


def check_refused(case, refusal, function, *arguments):
    """That just this class of refusal comes; the refusal itself is told."""
    with case.assertRaises(refusal) as caught:
        function(*arguments)
    case.assertIs(caught.exception.__class__, refusal)
    return caught.exception
