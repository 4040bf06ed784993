import unittest

from lenthaste import running
from lenthaste.errors import NoWorker
from lenthaste.running import ended, run, waited
from lenthaste.shops import begun
from lenthaste.ticking import tick
from tests.model import whole_run
from tests.samples import (
    NO_WORKERS, TRACE_WORKED, WRONG_WORKERS, check_refused, random_workers, told_kinds, trace_shops, trace_workers,
    worker,
)

SHARED = [("hold", 1), ("work", 4), ("free", 1)]


def lent_to():
    """Worker 0 takes the tool first; worker 2 waits for it, ahead of worker 1."""
    return [
        worker(rank=1, plan=SHARED + [("work", 2)]),
        worker(rank=5, start=1, plan=[("work", 3)]),
        worker(rank=9, start=2, plan=[("work", 1), ("hold", 1), ("work", 1), ("free", 1), ("work", 1)]),
    ]


LENT_WORKED = [0, 1, 2, 0, 0, 0, 2, 2, 1, 1, 0, 0]


class Interface(unittest.TestCase):
    def test_defined_in_running(self):
        for name in ("run", "ended", "waited"):
            self.assertEqual(getattr(running, name).__module__, "lenthaste.running")


class Run(unittest.TestCase):
    def test_no_tick(self):
        self.assertEqual(told_kinds(run(trace_workers(), 0)), told_kinds((begun(trace_workers()), [])))

    def test_one_tick(self):
        shop, who = tick(begun(trace_workers()))
        self.assertEqual(told_kinds(run(trace_workers(), 1)), told_kinds((shop, [who])))

    def test_along_the_trace(self):
        for many, shop in enumerate(trace_shops()):
            self.assertEqual(told_kinds(run(trace_workers(), many)), told_kinds((shop, TRACE_WORKED[:many])))

    def test_more_than_all_work(self):
        (workers, now, spots), worked = run(trace_workers(), 3000)
        self.assertEqual(worked, TRACE_WORKED[:10] + [None] * 2990)
        self.assertEqual((workers, now, spots), (trace_workers(), 3000, [(4, 0), (4, 0), (6, 0)]))

    def test_a_rank_that_is_lent(self):
        for many in range(13):
            self.assertEqual(run(lent_to(), many)[1], LENT_WORKED[:many])

    def test_nobody_works_ahead_of_the_starts_and_between(self):
        workers = [worker(rank=1, start=6), worker(rank=2, start=2, plan=[("work", 2)])]
        told = run(workers, 9)
        self.assertEqual(told, ((workers, 9, [(1, 0), (1, 0)]), [None, None, 1, 1, None, None, 0, None, None]))

    def test_nobody_works_at_a_tick_of_holds_alone(self):
        workers = [worker(plan=[("work", 1), ("hold", 1), ("free", 1)])]
        self.assertEqual(run(workers, 1), ((workers, 1, [(1, 0)]), [0]))
        self.assertEqual(run(workers, 2), ((workers, 2, [(3, 0)]), [0, None]))
        self.assertEqual(run(workers, 3), ((workers, 3, [(3, 0)]), [0, None, None]))

    def test_many_shops(self):
        for seed in range(100):
            workers = random_workers(seed)
            worked, spots = whole_run(workers)
            for many in (0, 1, 2, 7, 15, len(worked) - 1, len(worked)):
                many = min(many, len(worked))
                wanted = ((workers, many, spots[many]), worked[:many])
                self.assertEqual(told_kinds(run(workers, many)), told_kinds(wanted))
            self.assertEqual(run(workers, len(worked) + 50),
                             ((workers, len(worked) + 50, spots[-1]), worked + [None] * 50))

    def test_refused_workers_with_any_many(self):
        for wanted, workers in WRONG_WORKERS:
            for many in (0, 1, 5, 1000):
                check_refused(self, wanted, run, workers, many)


class Ended(unittest.TestCase):
    def test_one_worker(self):
        self.assertEqual(told_kinds(ended([worker()])), told_kinds([0]))
        self.assertEqual(ended([worker(plan=[("work", 5)])]), [4])

    def test_at_different_ticks(self):
        self.assertEqual(ended(trace_workers()), [6, 4, 9])
        self.assertEqual(ended(lent_to()), [11, 9, 7])

    def test_a_late_start(self):
        self.assertEqual(ended([worker(start=1000, plan=[("work", 2)])]), [1001])
        self.assertEqual(ended([worker(rank=2, start=1000, plan=[("hold", 1), ("free", 1)]), worker()]), [1000, 0])

    def test_long_works(self):
        self.assertEqual(ended([worker(rank=2, plan=[("work", 100)] * 40), worker(plan=[("work", 100)])]),
                         [3999, 4099])

    def test_eight_of_long_works(self):
        workers = [worker(rank=8 - k, start=1000, plan=[("work", 100)] * 40) for k in range(8)]
        self.assertEqual(ended(workers), [1000 + 4000 * (k + 1) - 1 for k in range(8)])

    def test_frees_behind_the_last_work(self):
        self.assertEqual(ended([worker(plan=SHARED)]), [3])

    def test_a_plan_of_no_work(self):
        self.assertEqual(ended([worker(start=3, plan=[("hold", 1), ("free", 1)])]), [3])

    def test_a_plan_that_ends_by_a_hold_and_a_free(self):
        tail = [("hold", 1), ("free", 1)]
        self.assertEqual(ended([worker(plan=[("work", 2)] + tail)]), [2])
        self.assertEqual(ended([worker(rank=5, plan=[("work", 2)] + tail), worker(plan=[("work", 4)])]), [2, 5])
        self.assertEqual(ended([worker(plan=[("work", 2)] + tail), worker(rank=5, start=2, plan=[("work", 4)])]),
                         [6, 5])

    def test_several_in_one_tick(self):
        tail = [("hold", 1), ("free", 1)]
        self.assertEqual(ended([worker(rank=rank, start=4, plan=list(tail)) for rank in (3, 1, 2)]), [4, 4, 4])

    def test_a_plan_that_waits_for_its_last_hold(self):
        workers = [worker(rank=5, start=1, plan=[("hold", 1), ("free", 1)]), worker(plan=SHARED + [("work", 2)])]
        self.assertEqual(ended(workers), [4, 5])

    def test_many_shops(self):
        for seed in range(100):
            workers = random_workers(seed)
            _, spots = whole_run(workers)
            places = [[spot[k][0] for spot in spots] for k in range(len(workers))]
            wanted = [places[k].index(len(worker[2])) - 1 for k, worker in enumerate(workers)]
            self.assertEqual(told_kinds(ended(workers)), told_kinds(wanted))

    def test_refused_workers(self):
        for wanted, workers in WRONG_WORKERS:
            check_refused(self, wanted, ended, workers)


class Waited(unittest.TestCase):
    def test_along_the_trace(self):
        self.assertEqual([waited(trace_workers(), k) for k in range(3)], [[], [3], []])

    def test_for_the_tool_of_a_lesser_one(self):
        self.assertEqual(told_kinds(waited(lent_to(), 2)), told_kinds([3, 4, 5]))

    def test_one_between_waits_too(self):
        self.assertEqual(waited(lent_to(), 1), [3, 4, 5])

    def test_the_least_one_never_waits_for_lesser_work(self):
        self.assertEqual(waited(lent_to(), 0), [])
        self.assertEqual(waited([worker()], 0), [])

    def test_work_of_greater_ones_does_not_count(self):
        workers = [worker(rank=3, plan=[("work", 5)]), worker(rank=7, plan=[("work", 6)]), worker(rank=1)]
        self.assertEqual([waited(workers, k) for k in range(3)], [[], [], []])

    def test_a_lent_rank_is_not_its_own(self):
        workers = [worker(rank=1, plan=list(SHARED)), worker(rank=9, start=2, plan=list(SHARED)),
                   worker(rank=5, start=1, plan=[("work", 1), ("work", 1)])]
        self.assertEqual(run(workers, 11)[1], [0, 2, 0, 0, 0, 1, 1, 1, 1, 2, None])
        self.assertEqual([waited(workers, k) for k in range(3)], [[], [2, 3, 4], [2, 3, 4]])

    def test_ahead_of_its_start(self):
        for start in range(5):
            workers = [worker(rank=9, start=start, plan=list(SHARED)), worker(rank=1, plan=list(SHARED))]
            wanted = [tick for tick in range(4) if tick >= start] if start else []
            self.assertEqual(waited(workers, 0), wanted)

    def test_behind_its_end(self):
        workers = [worker(rank=9, plan=[("work", 2)]), worker(rank=1, plan=[("work", 5)])]
        self.assertEqual(waited(workers, 0), [])

    def test_the_tick_of_its_last_hold(self):
        workers = [worker(rank=9, plan=[("work", 1), ("hold", 1), ("free", 1)]), worker(rank=1, plan=[("work", 5)])]
        self.assertEqual(run(workers, 3), ((workers, 3, [(3, 0), (0, 2)]), [0, 1, 1]))
        self.assertEqual(waited(workers, 0), [])
        workers = [worker(rank=9, start=1, plan=[("hold", 1), ("free", 1)]),
                   worker(rank=1, plan=SHARED + [("work", 2)])]
        self.assertEqual(waited(workers, 0), [1, 2, 3])

    def test_the_last_tick_of_a_lesser_one(self):
        workers = [worker(rank=9, start=3, plan=[("hold", 1), ("free", 1)]), worker(rank=1, plan=list(SHARED))]
        self.assertEqual(waited(workers, 0), [3])
        self.assertEqual(ended(workers), [4, 3])

    def test_along_a_chain(self):
        workers = [
            worker(rank=1, plan=[("hold", 7), ("work", 5), ("free", 7)]),
            worker(rank=4, start=1, plan=[("hold", 3), ("work", 1), ("hold", 7), ("work", 2), ("free", 3),
                                          ("free", 7)]),
            worker(rank=9, start=3, plan=[("hold", 3), ("work", 1), ("free", 3)]),
            worker(rank=6, start=4),
        ]
        self.assertEqual(run(workers, 11)[1], [0, 1, 0, 0, 0, 0, 1, 1, 2, 3, None])
        self.assertEqual([waited(workers, k) for k in range(4)],
                         [[], [2, 3, 4, 5], [3, 4, 5, 6, 7], [4, 5, 6, 7]])

    def test_the_last_of_eight(self):
        workers = [worker(rank=1, plan=[("hold", 0), ("work", 3), ("free", 0)])]
        workers += [worker(rank=k + 2, start=2, plan=[("hold", 0), ("work", 1), ("free", 0)]) for k in range(7)]
        self.assertEqual([waited(workers, k) for k in range(8)], [[]] + [[2]] * 7)

    def test_many_shops(self):
        some = 0
        for seed in range(100):
            workers = random_workers(seed)
            worked, spots = whole_run(workers)
            for k, (rank, start, plan) in enumerate(workers):
                wanted = [tick for tick, who in enumerate(worked) if who is not None and workers[who][0] < rank
                          and tick >= start and spots[tick + 1][k][0] < len(plan)]
                self.assertEqual(told_kinds(waited(workers, k)), told_kinds(wanted))
                some += len(wanted)
        self.assertGreater(some, 100)

    def test_refused_workers(self):
        for wanted, workers in WRONG_WORKERS:
            check_refused(self, wanted, waited, workers, 0)

    def test_refused_workers_ahead_of_no_worker(self):
        for wanted, workers in WRONG_WORKERS:
            for k in (-1, len(workers), 100, True, False, None, "0"):
                check_refused(self, wanted, waited, workers, k)

    def test_no_worker(self):
        for k in NO_WORKERS:
            check_refused(self, NoWorker, waited, trace_workers(), k)

    def test_no_worker_by_how_many_there_are(self):
        for many in range(1, 9):
            workers = [worker(rank=k + 1) for k in range(many)]
            for k in (many, many + 1, -1, -many, True, False, None, "0"):
                check_refused(self, NoWorker, waited, workers, k)
            self.assertEqual(waited(workers, many - 1), [])


if __name__ == "__main__":
    unittest.main()
