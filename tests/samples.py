"""Workers and shops that several tests use, and what they are checked with."""

import random

from lenthaste import errors

CLASSES = [errors.TooMany, errors.BadWorker, errors.BadRank, errors.BadStart, errors.BadPlan, errors.NoWorker]

# What is no number, where one from 1 to 9 would do.
NO_NUMBERS = [True, False, None, "1", "", [1], (1,), [], ()]

# What is no worker's number in a shop of three.
NO_WORKERS = [
    -1, -2, -3, 3, 4, 100, 10 ** 30, -10 ** 30, True, False, None,
    "", "0", "1", [], [0], (), (0,), {}, {0: 1}, 0.0, 1.0, 0.5,
]

# Workers that are refused, and with what.
WRONG_WORKERS = [
    (errors.TooMany, []),
    (errors.TooMany, [(k + 1, 0, [("work", 1)]) for k in range(9)]),
    (errors.BadWorker, [[1, 0, [("work", 1)]]]),
    (errors.BadRank, [(1, 0, [("work", 1)]), (1, 0, [("work", 1)])]),
    (errors.BadStart, [(1, 1001, [("work", 1)])]),
    (errors.BadPlan, [(1, 0, [("hold", 3), ("work", 1)])]),
]


def worker(rank=1, start=0, plan=None):
    """A worker, with one tick of work as its plan if none is given."""
    return (rank, start, [("work", 1)] if plan is None else plan)


def parts(thing):
    """Every list, tuple and plain value within thing, thing itself first."""
    found = [thing]
    if isinstance(thing, (list, tuple)):
        for item in thing:
            found.extend(parts(item))
    return found


def lists_in(thing):
    """Every list within thing, one as often as it stands there."""
    return [part for part in parts(thing) if isinstance(part, list)]


def told_kinds(thing):
    """thing with the class beside each value, so that False and 0 differ."""
    if isinstance(thing, (list, tuple)):
        return (type(thing), [told_kinds(item) for item in thing])
    return (type(thing), thing)


def picture(thing):
    """What thing holds and which objects it is made of."""
    return (told_kinds(thing), [id(part) for part in parts(thing) if isinstance(part, (list, tuple))])


def trace_workers():
    """Three workers, the first two with one tool in common."""
    return [
        (2, 0, [("hold", 1), ("work", 3), ("free", 1), ("work", 2)]),
        (5, 2, [("work", 1), ("hold", 1), ("work", 1), ("free", 1)]),
        (9, 7, [("hold", 0), ("hold", 4), ("work", 2), ("free", 0), ("work", 1), ("free", 4)]),
    ]


# By now: the spots, who is there, the tools held, and the step of each.
TRACE = [
    ([(0, 0), (0, 0), (0, 0)], [0], {}, [("hold", 1), ("work", 1), ("hold", 0)]),
    ([(1, 1), (0, 0), (0, 0)], [0], {1: 0}, [("work", 3), ("work", 1), ("hold", 0)]),
    ([(1, 2), (0, 0), (0, 0)], [0, 1], {1: 0}, [("work", 3), ("work", 1), ("hold", 0)]),
    ([(1, 2), (1, 0), (0, 0)], [0, 1], {1: 0}, [("work", 3), ("hold", 1), ("hold", 0)]),
    ([(3, 0), (1, 0), (0, 0)], [0, 1], {}, [("work", 2), ("hold", 1), ("hold", 0)]),
    ([(3, 0), (4, 0), (0, 0)], [0], {}, [("work", 2), None, ("hold", 0)]),
    ([(3, 1), (4, 0), (0, 0)], [0], {}, [("work", 2), None, ("hold", 0)]),
    ([(4, 0), (4, 0), (0, 0)], [2], {}, [None, None, ("hold", 0)]),
    ([(4, 0), (4, 0), (2, 1)], [2], {0: 2, 4: 2}, [None, None, ("work", 2)]),
    ([(4, 0), (4, 0), (4, 0)], [2], {4: 2}, [None, None, ("work", 1)]),
    ([(4, 0), (4, 0), (6, 0)], [], {}, [None, None, None]),
    ([(4, 0), (4, 0), (6, 0)], [], {}, [None, None, None]),
]


# Who works at each tick of the trace.
TRACE_WORKED = [0, 0, 1, 0, 1, 0, 0, 2, 2, 2, None]


def trace_shops():
    """The shops of the trace, by now."""
    return [(trace_workers(), now, list(row[0])) for now, row in enumerate(TRACE)]


def lending_shop(now=20, free_rank=8):
    """A shop in which four wait: 3 for 2, 2 for 1, and both 1 and 4 for 0."""
    workers = [
        (2, 0, [("hold", 3), ("work", 5), ("free", 3)]),
        (4, 0, [("hold", 2), ("work", 1), ("hold", 3), ("work", 1), ("free", 2), ("free", 3)]),
        (7, 0, [("hold", 1), ("work", 1), ("hold", 2), ("work", 1), ("free", 1), ("free", 2)]),
        (5, 0, [("hold", 1), ("work", 2), ("free", 1)]),
        (3, 0, [("hold", 3), ("work", 1), ("free", 3)]),
        (9, 50, [("hold", 3), ("work", 1), ("free", 3)]),
        (free_rank, 0, [("hold", 9), ("work", 1), ("free", 9)]),
        (1, 0, [("work", 1)]),
    ]
    return (workers, now, [(1, 2), (2, 0), (2, 0), (0, 0), (0, 0), (0, 0), (0, 0), (1, 0)])


def turned(shop):
    """The shop with its workers the other way round."""
    workers, now, spots = shop
    return (workers[::-1], now, spots[::-1])


def own_plans(workers):
    """The workers with no list in common with those."""
    return [(rank, start, list(plan)) for rank, start, plan in workers]


def random_plan(dice, tools):
    """A plan of a few steps, which holds some of the tools."""
    plan, mine = [], []
    for _ in range(dice.randint(1, 9)):
        more = [tool for tool in tools if not mine or tool > max(mine)]
        word = dice.choice(["work", "hold", "hold", "free"])
        if word == "hold" and more:
            mine.append(dice.choice(more))
            plan.append(("hold", mine[-1]))
        elif word == "free" and mine:
            plan.append(("free", mine.pop(dice.randrange(len(mine)))))
        else:
            plan.append(("work", dice.randint(1, 3)))
    dice.shuffle(mine)
    return plan + [("free", tool) for tool in mine]


def random_workers(seed, most=7):
    """Some workers of ranks from 2 on that share a few tools, the same by seed."""
    dice = random.Random(seed)
    many = dice.randint(1, most)
    ranks = dice.sample(range(2, 20), many)
    tools = sorted(dice.sample(range(10), dice.randint(1, 4)))
    return [(rank, dice.randint(0, 12), random_plan(dice, tools)) for rank in ranks]


def refusal(function, *given):
    """The error with which the call is refused, or None."""
    try:
        function(*given)
    except Exception as error:
        return error
    return None


def check_refused(case, wanted, function, *given):
    """Checks that the call raises wanted and no other class, and changes nothing."""
    before = picture(given)
    error = refusal(function, *given)
    case.assertIsNotNone(error, f"not refused: {given!r}")
    case.assertIs(type(error), wanted, f"{given!r}: {error!r}")
    case.assertIsInstance(error, errors.HasteError)
    case.assertIsInstance(error, ValueError)
    for other in CLASSES:
        if other is not wanted:
            case.assertNotIsInstance(error, other)
    case.assertEqual(picture(given), before)
