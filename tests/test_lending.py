import unittest

from lenthaste import lending
from lenthaste.lending import chain, lenders, rank_of, waits
from lenthaste.shops import begun
from lenthaste.ticking import tick
from tests.model import Shop
from tests.samples import lending_shop, random_workers, told_kinds, trace_shops, turned, worker


def all_waits(shop):
    return [waits(shop, k) for k in range(len(shop[0]))]


def all_chains(shop):
    return [chain(shop, k) for k in range(len(shop[0]))]


def all_ranks(shop):
    return [rank_of(shop, k) for k in range(len(shop[0]))]


def all_lenders(shop):
    return [lenders(shop, k) for k in range(len(shop[0]))]


def sharing(*ranks):
    """Workers of these ranks that all hold tool 4 for two ticks."""
    return [worker(rank=rank, plan=[("hold", 4), ("work", 2), ("free", 4)]) for rank in ranks]


class Interface(unittest.TestCase):
    def test_defined_in_lending(self):
        for name in ("waits", "chain", "rank_of", "lenders"):
            self.assertEqual(getattr(lending, name).__module__, "lenthaste.lending")


class Waits(unittest.TestCase):
    def test_in_a_shop_of_all_kinds(self):
        self.assertEqual(told_kinds(all_waits(lending_shop())), told_kinds([None, 0, 1, 2, 0, None, None, None]))

    def test_the_other_way_round(self):
        self.assertEqual(all_waits(turned(lending_shop())), [None, None, None, 7, 5, 6, 7, None])

    def test_a_free_tool(self):
        self.assertEqual(all_waits(begun(sharing(1, 2))), [None, None])

    def test_a_tool_that_another_one_holds(self):
        self.assertEqual(all_waits((sharing(1, 2), 5, [(1, 0), (0, 0)])), [None, 0])
        self.assertEqual(all_waits((sharing(1, 2), 5, [(0, 0), (1, 1)])), [1, None])

    def test_a_lesser_one_waits_for_a_greater_one_too(self):
        self.assertEqual(all_waits((sharing(9, 2), 5, [(1, 0), (0, 0)])), [None, 0])

    def test_not_amid_a_work_that_a_hold_stands_behind(self):
        workers = sharing(1) + [worker(rank=2, plan=[("work", 2), ("hold", 4), ("free", 4)])]
        self.assertEqual(waits((workers, 5, [(1, 0), (0, 1)]), 1), None)
        self.assertEqual(waits((workers, 5, [(1, 0), (1, 0)]), 1), 0)

    def test_a_work_of_as_many_ticks_as_the_tool_has_for_its_number(self):
        workers = sharing(1) + [worker(rank=2, plan=[("work", 4)])]
        self.assertEqual(waits((workers, 5, [(1, 0), (0, 0)]), 1), None)

    def test_no_step_left(self):
        self.assertEqual(all_waits((sharing(1, 2), 5, [(1, 0), (3, 0)])), [None, None])

    def test_from_its_start_on(self):
        workers = sharing(1) + [worker(rank=2, start=6, plan=[("hold", 4), ("free", 4)])]
        for now, wanted in ((4, None), (5, None), (6, 0), (7, 0)):
            self.assertEqual(waits((workers, now, [(1, 0), (0, 0)]), 1), wanted)

    def test_no_longer_once_the_tool_is_freed(self):
        self.assertEqual(all_waits((sharing(1, 2), 5, [(3, 0), (0, 0)])), [None, None])

    def test_for_the_one_that_holds_that_very_tool(self):
        workers = [worker(rank=k + 1, plan=[("hold", k), ("work", 2), ("free", k)]) for k in range(4)]
        workers.append(worker(rank=9, plan=[("hold", 2), ("free", 2)]))
        self.assertEqual(waits((workers, 5, [(1, 0)] * 4 + [(0, 0)]), 4), 2)

    def test_along_the_trace(self):
        for now, shop in enumerate(trace_shops()):
            self.assertEqual(all_waits(shop), [None, 0 if now == 3 else None, None])


class Chains(unittest.TestCase):
    def test_of_one_to_four_workers(self):
        wanted = [[0], [1, 0], [2, 1, 0], [3, 2, 1, 0], [4, 0], [5], [6], [7]]
        self.assertEqual(told_kinds(all_chains(lending_shop())), told_kinds(wanted))

    def test_the_other_way_round(self):
        wanted = [[0], [1], [2], [3, 7], [4, 5, 6, 7], [5, 6, 7], [6, 7], [7]]
        self.assertEqual(all_chains(turned(lending_shop())), wanted)

    def test_one_that_comes_joins_at_its_start(self):
        self.assertEqual(chain(lending_shop(now=49), 5), [5])
        self.assertEqual(chain(lending_shop(now=50), 5), [5, 0])

    def test_all_eight_in_one_row(self):
        workers = [worker(rank=k + 1, plan=[("hold", k), ("hold", k + 1), ("work", 2), ("free", k), ("free", k + 1)])
                   for k in range(8)]
        shop = (workers, 5, [(1, 0)] * 7 + [(2, 1)])
        self.assertEqual(all_chains(shop), [list(range(k, 8)) for k in range(8)])
        self.assertEqual(all_ranks(shop), [1, 2, 3, 4, 5, 6, 7, 8])
        self.assertEqual(all_lenders(shop), [list(range(k)) for k in range(8)])
        self.assertEqual(all_ranks(turned(shop)), [8, 7, 6, 5, 4, 3, 2, 1])

    def test_along_the_trace(self):
        for now, shop in enumerate(trace_shops()):
            self.assertEqual(all_chains(shop), [[0], [1, 0] if now == 3 else [1], [2]])


class Ranks(unittest.TestCase):
    def test_in_a_shop_of_all_kinds(self):
        self.assertEqual(told_kinds(all_ranks(lending_shop())), told_kinds([7, 7, 7, 5, 3, 9, 8, 1]))
        self.assertEqual(all_ranks(turned(lending_shop())), [1, 8, 9, 3, 5, 7, 7, 7])

    def test_lent_from_the_start_on(self):
        self.assertEqual(all_ranks(lending_shop(now=50)), [9, 7, 7, 5, 3, 9, 8, 1])

    def test_nobody_waits(self):
        self.assertEqual(all_ranks(begun(sharing(3, 8, 5))), [3, 8, 5])

    def test_one_waits(self):
        self.assertEqual(all_ranks((sharing(3, 8), 5, [(1, 0), (0, 0)])), [8, 8])

    def test_a_lesser_one_that_waits_lends_nothing_that_counts(self):
        self.assertEqual(all_ranks((sharing(3, 8), 5, [(0, 0), (1, 0)])), [3, 8])

    def test_several_that_wait_for_one(self):
        self.assertEqual(all_ranks((sharing(3, 8, 10 ** 6, 5), 5, [(1, 0), (0, 0), (0, 0), (0, 0)])),
                         [10 ** 6, 8, 10 ** 6, 5])

    def test_two_ways_to_one_that_holds_two_tools(self):
        workers = [
            worker(rank=1, plan=[("hold", 0), ("hold", 5), ("work", 9), ("free", 0), ("free", 5)]),
            worker(rank=6, plan=[("hold", 0), ("work", 1), ("free", 0)]),
            worker(rank=4, plan=[("hold", 3), ("hold", 5), ("work", 1), ("free", 3), ("free", 5)]),
            worker(rank=9, plan=[("hold", 3), ("work", 1), ("free", 3)]),
        ]
        shop = (workers, 5, [(2, 0), (0, 0), (1, 0), (0, 0)])
        self.assertEqual(all_ranks(shop), [9, 6, 9, 9])
        self.assertEqual(all_lenders(shop), [[1, 2, 3], [], [3], []])

    def test_no_lent_rank_outlasts_its_cause(self):
        self.assertEqual(all_ranks((sharing(3, 8), 5, [(1, 1), (0, 0)])), [8, 8])
        self.assertEqual(all_ranks((sharing(3, 8), 6, [(3, 0), (0, 0)])), [3, 8])

    def test_along_the_trace(self):
        for now, shop in enumerate(trace_shops()):
            self.assertEqual(all_ranks(shop), [5 if now == 3 else 2, 5, 9])
            self.assertEqual(all_lenders(shop), [[1] if now == 3 else [], [], []])


class Lenders(unittest.TestCase):
    def test_in_a_shop_of_all_kinds(self):
        wanted = [[1, 2, 3, 4], [2, 3], [3], [], [], [], [], []]
        self.assertEqual(told_kinds(all_lenders(lending_shop())), told_kinds(wanted))

    def test_rising_although_the_chains_fall(self):
        self.assertEqual(all_lenders(turned(lending_shop())), [[], [], [], [], [], [4], [4, 5], [3, 4, 5, 6]])

    def test_one_amid_the_numbers_is_not_its_own_lender(self):
        self.assertEqual(lenders((sharing(3, 8, 5), 5, [(0, 0), (1, 0), (0, 0)]), 1), [0, 2])

    def test_also_those_of_a_lesser_rank(self):
        self.assertEqual(lenders((sharing(8, 3), 5, [(1, 0), (0, 0)]), 0), [1])


class ManyShops(unittest.TestCase):
    def check_shop(self, shop):
        model = Shop(shop)
        ahead = [model.waits(one) for one in model.all]
        wanted = [None if other is None else model.all.index(other) for other in ahead]
        self.assertEqual(all_waits(shop), wanted)
        self.assertEqual(all_ranks(shop), model.ranks())
        for k, told in enumerate(all_chains(shop)):
            self.assertEqual(told[0], k)
            self.assertEqual([wanted[one] for one in told], told[1:] + [None])
        chains = all_chains(shop)
        for k, told in enumerate(all_lenders(shop)):
            self.assertEqual(told, [j for j in range(len(chains)) if j != k and k in chains[j]])

    def test_along_whole_runs(self):
        longest = 0
        for seed in range(60):
            shop = begun(random_workers(seed))
            while any(place < len(plan) for (_, _, plan), (place, _) in zip(shop[0], shop[2])):
                self.check_shop(shop)
                longest = max([longest] + [len(told) for told in all_chains(shop)])
                shop, _ = tick(shop)
        self.assertGreaterEqual(longest, 3)


if __name__ == "__main__":
    unittest.main()
