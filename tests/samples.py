"""Workers and shops that several tests use, and what they are checked with."""

from lenthaste import errors

CLASSES = [errors.TooMany, errors.BadWorker, errors.BadRank, errors.BadStart, errors.BadPlan, errors.NoWorker]

# What is no number, where one from 1 to 9 would do.
NO_NUMBERS = [True, False, None, "1", "", [1], (1,), [], ()]


def worker(rank=1, start=0, plan=None):
    """A worker, with one tick of work as its plan if none is given."""
    return (rank, start, [("work", 1)] if plan is None else plan)


def parts(thing):
    """Every list, tuple and plain value within thing, thing itself first."""
    found = [thing]
    if isinstance(thing, (list, tuple)):
        for item in thing:
            found.extend(parts(item))
    return found


def lists_in(thing):
    """Every list within thing, one as often as it stands there."""
    return [part for part in parts(thing) if isinstance(part, list)]


def told_kinds(thing):
    """thing with the class beside each value, so that False and 0 differ."""
    if isinstance(thing, (list, tuple)):
        return (type(thing), [told_kinds(item) for item in thing])
    return (type(thing), thing)


def picture(thing):
    """What thing holds and which objects it is made of."""
    return (told_kinds(thing), [id(part) for part in parts(thing) if isinstance(part, (list, tuple))])


def trace_workers():
    """Three workers, the first two with one tool in common."""
    return [
        (2, 0, [("hold", 1), ("work", 3), ("free", 1), ("work", 2)]),
        (5, 2, [("work", 1), ("hold", 1), ("work", 1), ("free", 1)]),
        (9, 7, [("hold", 0), ("hold", 4), ("work", 2), ("free", 0), ("work", 1), ("free", 4)]),
    ]


# By now: the spots, who is there, the tools held, and the step of each.
TRACE = [
    ([(0, 0), (0, 0), (0, 0)], [0], {}, [("hold", 1), ("work", 1), ("hold", 0)]),
    ([(1, 1), (0, 0), (0, 0)], [0], {1: 0}, [("work", 3), ("work", 1), ("hold", 0)]),
    ([(1, 2), (0, 0), (0, 0)], [0, 1], {1: 0}, [("work", 3), ("work", 1), ("hold", 0)]),
    ([(1, 2), (1, 0), (0, 0)], [0, 1], {1: 0}, [("work", 3), ("hold", 1), ("hold", 0)]),
    ([(3, 0), (1, 0), (0, 0)], [0, 1], {}, [("work", 2), ("hold", 1), ("hold", 0)]),
    ([(3, 0), (4, 0), (0, 0)], [0], {}, [("work", 2), None, ("hold", 0)]),
    ([(3, 1), (4, 0), (0, 0)], [0], {}, [("work", 2), None, ("hold", 0)]),
    ([(4, 0), (4, 0), (0, 0)], [2], {}, [None, None, ("hold", 0)]),
    ([(4, 0), (4, 0), (2, 1)], [2], {0: 2, 4: 2}, [None, None, ("work", 2)]),
    ([(4, 0), (4, 0), (4, 0)], [2], {4: 2}, [None, None, ("work", 1)]),
    ([(4, 0), (4, 0), (6, 0)], [], {}, [None, None, None]),
    ([(4, 0), (4, 0), (6, 0)], [], {}, [None, None, None]),
]


def trace_shops():
    """The shops of the trace, by now."""
    return [(trace_workers(), now, list(row[0])) for now, row in enumerate(TRACE)]


def refusal(function, *given):
    """The error with which the call is refused, or None."""
    try:
        function(*given)
    except Exception as error:
        return error
    return None


def check_refused(case, wanted, function, *given):
    """Checks that the call raises wanted and no other class, and changes nothing."""
    before = picture(given)
    error = refusal(function, *given)
    case.assertIsNotNone(error, f"not refused: {given!r}")
    case.assertIs(type(error), wanted, f"{given!r}: {error!r}")
    case.assertIsInstance(error, errors.HasteError)
    case.assertIsInstance(error, ValueError)
    for other in CLASSES:
        if other is not wanted:
            case.assertNotIsInstance(error, other)
    case.assertEqual(picture(given), before)
