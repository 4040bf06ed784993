"""What comes of it: points 12 to 14, over whole runs of workers that share tools."""

import unittest

from lenthaste.lending import chain, rank_of, waits
from lenthaste.running import ended, run, waited
from lenthaste.shops import begun, there
from lenthaste.ticking import chosen, rest_of, tick
from tests.samples import own_plans, random_workers, trace_workers, worker

# Two tools held over each other, and three that come late and want one or both.
NESTED = [
    (1, 0, [("hold", 2), ("work", 3), ("hold", 6), ("work", 4), ("free", 2), ("work", 2), ("free", 6), ("work", 5)]),
    (3, 2, [("hold", 1), ("work", 1), ("hold", 6), ("work", 2), ("free", 6), ("free", 1)]),
    (8, 4, [("hold", 1), ("hold", 2), ("work", 2), ("free", 1), ("free", 2)]),
    (5, 5, [("work", 2), ("hold", 0), ("work", 1), ("free", 0)]),
    (7, 6, [("hold", 6), ("free", 6), ("work", 1)]),
]

RUNS = [trace_workers(), NESTED] + [random_workers(seed) for seed in range(120)]


def whole(workers):
    """The shops of a run, by now, and who worked at each."""
    shop, shops, worked = begun(workers), [], []
    for _ in range(max(ended(workers)) + 3):
        shops.append(shop)
        shop, who = tick(shop)
        worked.append(who)
    return shops, worked


def work_left(shop, k):
    """Whether work is left in worker k's plan."""
    return any(word == "work" for word, _ in shop[0][k][2][shop[2][k][0]:])


class Outcomes(unittest.TestCase):
    def test_chains_come_to_no_one_twice_and_end_at_one_there(self):
        for workers in RUNS:
            for shop in whole(workers)[0]:
                for k in range(len(workers)):
                    told = chain(shop, k)
                    self.assertEqual(len(set(told)), len(told))
                    self.assertIsNone(waits(shop, told[-1]))
                    if k in there(shop):
                        self.assertIn(told[-1], there(shop))

    def test_the_last_one_in_the_chain_of_the_greatest_is_chosen(self):
        lent = 0
        for workers in RUNS:
            for shop in whole(workers)[0]:
                ready = there(shop)
                if not ready:
                    self.assertIsNone(chosen(shop))
                    continue
                greatest = max(ready, key=lambda k: workers[k][0])
                self.assertEqual(chosen(shop), chain(shop, greatest)[-1])
                lent += chosen(shop) != greatest
        self.assertGreater(lent, 50)

    def test_the_chosen_one_has_the_greatest_rank(self):
        for workers in RUNS:
            for shop in whole(workers)[0]:
                ready = [k for k in there(shop) if waits(shop, k) is None]
                ranks = [rank_of(shop, k) for k in ready]
                self.assertEqual(len(set(ranks)), len(ranks))
                if ready:
                    self.assertEqual(chosen(shop), ready[ranks.index(max(ranks))])

    def test_the_one_that_worked_had_the_greatest_rank_behind_the_holds(self):
        for workers in RUNS:
            shops, worked = whole(workers)
            for shop, behind, who in zip(shops, shops[1:], worked):
                if who is None:
                    continue
                spots = list(behind[2])
                spots[who] = shop[2][who]
                while workers[who][2][spots[who][0]][0] != "work":
                    spots[who] = (spots[who][0] + 1, 0)
                self.assertEqual(chosen((shop[0], shop[1], spots)), who)

    def test_nobody_works_just_where_no_work_is_left(self):
        idle = 0
        for workers in RUNS:
            for shop, who in zip(*whole(workers)):
                self.assertEqual(who is None, not any(work_left(shop, k) for k in there(shop)))
                idle += who is None and there(shop) != []
        self.assertGreater(idle, 5)

    def test_waits_for_lesser_work_no_longer_than_the_rests(self):
        some = 0
        for workers in RUNS:
            worked = whole(workers)[1]
            for k, (rank, start, _) in enumerate(workers):
                shop, ticks = run(workers, start)[0], waited(workers, k)
                lesser = [other for other in range(len(workers)) if workers[other][0] < rank]
                self.assertEqual([tick for tick in ticks if worked[tick] not in lesser], [])
                for other in lesser:
                    many = len([tick for tick in ticks if worked[tick] == other])
                    self.assertLessEqual(many, rest_of(shop, other))
                    some += many
                self.assertLessEqual(len(ticks), sum(rest_of(shop, other) for other in lesser))
        self.assertGreater(some, 50)

    def test_nested_holds_are_waited_for_to_the_last_tick(self):
        worked = run(NESTED, 30)[1]
        self.assertEqual(worked, [0, 0, 1, 1, 1, 0, 0, 0, 0, 0, 2, 2, 0, 0, 4, 3, 3, 3] + [0] * 5 + [None] * 7)
        self.assertEqual(waited(NESTED, 2), [4, 5, 6, 7, 8, 9])
        self.assertEqual([rest_of(run(NESTED, 4)[0], k) for k in range(5)], [7, 1, 0, 0, 0])
        self.assertEqual(waited(NESTED, 4), [6, 7, 8, 9, 12, 13])
        self.assertEqual([rest_of(run(NESTED, 6)[0], k) for k in range(5)], [6, 0, 2, 0, 0])

    def test_the_least_one_without_tools_changes_nothing(self):
        plans = ([("work", 1)], [("work", 30)], [("work", 2)] * 40)
        for at, workers in enumerate(RUNS):
            many = max(ended(workers)) + 3
            wanted = run(workers, many)
            for place in range(len(workers) + 1):
                least = (1, at % 6, plans[at % 3])
                more = [(rank + 1, start, plan) for rank, start, plan in own_plans(workers)]
                more.insert(place, least)
                shop, worked = run(more, many)
                names = [k for k in range(len(more)) if k != place]
                self.assertEqual([None if who is None or who == place else names.index(who) for who in worked],
                                 wanted[1])
                self.assertEqual([shop[2][k] for k in names], wanted[0][2])
                ends = ended(more)
                self.assertEqual([ends[k] for k in names], ended(workers))

    def test_the_order_of_the_list_changes_nothing(self):
        for workers in RUNS:
            many = max(ended(workers)) + 3
            turned = [None if who is None else len(workers) - 1 - who for who in run(workers[::-1], many)[1]]
            self.assertEqual(turned, run(workers, many)[1])


class LeastRank(unittest.TestCase):
    def test_it_works_where_nobody_else_does(self):
        least = worker(rank=1, plan=[("work", 100)])
        workers = [(rank + 1, start, plan) for rank, start, plan in trace_workers()]
        self.assertEqual(run(workers + [least], 12)[1], [0, 0, 1, 0, 1, 0, 0, 2, 2, 2, 3, 3])
        self.assertEqual(run([least] + workers, 12)[1], [1, 1, 2, 1, 2, 1, 1, 3, 3, 3, 0, 0])


if __name__ == "__main__":
    unittest.main()
