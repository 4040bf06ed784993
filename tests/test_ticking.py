import unittest

from lenthaste import ticking
from lenthaste.shops import begun, held
from lenthaste.ticking import chosen, tick
from tests.model import Shop, whole_run
from tests.samples import (
    TRACE_WORKED, lending_shop, random_workers, told_kinds, trace_shops, turned, worker,
)


class Ticks(unittest.TestCase):
    def check_tick(self, shop, spots, who):
        """A tick of the shop tells these spots and who worked, at the next tick."""
        told = tick(shop)
        self.assertEqual(told_kinds(told), told_kinds(((shop[0], shop[1] + 1, spots), who)))

    def check_run(self, shop, *wanted):
        """Tick by tick, the spots behind each and who worked."""
        for spots, who in wanted:
            self.check_tick(shop, spots, who)
            shop, _ = tick(shop)


class Interface(unittest.TestCase):
    def test_defined_in_ticking(self):
        for name in ("chosen", "tick", "rest_of"):
            self.assertEqual(getattr(ticking, name).__module__, "lenthaste.ticking")


class Chosen(unittest.TestCase):
    def test_nobody_there(self):
        self.assertIsNone(chosen(begun([worker(start=1)])))
        self.assertIsNone(chosen(([worker()], 5, [(1, 0)])))
        self.assertIsNone(chosen(([worker(rank=1), worker(rank=2, start=9)], 5, [(1, 0), (0, 0)])))

    def test_one_there(self):
        self.assertEqual(chosen(begun([worker()])), 0)
        self.assertIs(type(chosen(begun([worker()]))), int)
        self.assertEqual(chosen(([worker(rank=9, start=6), worker(rank=1), worker(rank=8)], 5,
                                 [(0, 0), (0, 0), (1, 0)])), 1)

    def test_from_its_start_on(self):
        workers = [worker(rank=1, plan=[("work", 50)]), worker(rank=2, start=4)]
        for now, wanted in ((3, 0), (4, 1), (5, 1)):
            self.assertEqual(chosen((workers, now, [(0, 2), (0, 0)])), wanted)

    def test_the_greatest_rank_wherever_it_stands(self):
        for ranks in ((9, 2, 5), (2, 9, 5), (5, 2, 9)):
            self.assertEqual(chosen(begun([worker(rank=rank) for rank in ranks])), ranks.index(9))

    def test_the_greatest_one_waits(self):
        plan = [("hold", 4), ("work", 2), ("free", 4)]
        workers = [worker(rank=1, plan=list(plan)), worker(rank=9, plan=list(plan))]
        self.assertEqual(chosen((workers, 5, [(1, 0), (0, 0)])), 0)

    def test_a_lent_rank_goes_ahead_of_one_between(self):
        plan = [("hold", 4), ("work", 2), ("free", 4)]
        workers = [worker(rank=5), worker(rank=1, plan=list(plan)), worker(rank=9, plan=list(plan))]
        self.assertEqual(chosen((workers, 5, [(0, 0), (1, 0), (0, 0)])), 1)
        self.assertEqual(chosen((workers, 5, [(0, 0), (3, 0), (0, 0)])), 2)
        self.assertEqual(chosen((workers, 5, [(0, 0), (1, 0), (3, 0)])), 0)

    def test_a_lent_rank_goes_behind_a_greater_one(self):
        self.assertEqual(chosen(lending_shop()), 6)
        self.assertEqual(chosen(turned(lending_shop())), 1)

    def test_the_last_one_of_a_long_chain(self):
        self.assertEqual(chosen(lending_shop(free_rank=6)), 0)
        self.assertEqual(chosen(turned(lending_shop(free_rank=6))), 7)
        self.assertEqual(chosen(lending_shop(now=50)), 0)

    def test_one_at_a_hold_of_a_free_tool(self):
        self.assertEqual(chosen(begun([worker(rank=1), worker(rank=2, plan=[("hold", 1), ("free", 1)])])), 1)

    def test_along_the_trace(self):
        self.assertEqual([chosen(shop) for shop in trace_shops()], [0, 0, 1, 0, 1, 0, 0, 2, 2, 2, None, None])


class Works(Ticks):
    def test_nobody_there(self):
        self.check_tick(begun([worker(start=1)]), [(0, 0)], None)
        self.check_tick(([worker()], 5, [(1, 0)]), [(1, 0)], None)
        self.check_tick(([worker(rank=1), worker(rank=2, start=9)], 8, [(1, 0), (0, 0)]), [(1, 0), (0, 0)], None)

    def test_amid_a_work_and_its_last_tick(self):
        self.check_run(begun([worker(plan=[("work", 3), ("work", 1), ("work", 2)])]),
                       ([(0, 1)], 0), ([(0, 2)], 0), ([(1, 0)], 0), ([(2, 0)], 0), ([(2, 1)], 0), ([(3, 0)], 0),
                       ([(3, 0)], None), ([(3, 0)], None))

    def test_a_long_work(self):
        workers = [worker(plan=[("work", 100)])]
        self.check_tick((workers, 98, [(0, 98)]), [(0, 99)], 0)
        self.check_tick((workers, 99, [(0, 99)]), [(1, 0)], 0)

    def test_one_frees_right_behind_a_work(self):
        workers = [worker(plan=[("hold", 3), ("work", 2), ("free", 3), ("work", 1)])]
        self.check_tick((workers, 4, [(1, 0)]), [(1, 1)], 0)
        self.check_tick((workers, 4, [(1, 1)]), [(3, 0)], 0)
        self.assertEqual(held(tick((workers, 4, [(1, 1)]))[0]), {})

    def test_several_frees_in_a_row(self):
        plan = [("hold", 1), ("hold", 4), ("hold", 6), ("work", 1), ("free", 4), ("free", 1), ("work", 1),
                ("free", 6)]
        self.check_run(begun([worker(plan=plan)]), ([(6, 0)], 0), ([(8, 0)], 0), ([(8, 0)], None))
        self.assertEqual(held(tick(begun([worker(plan=plan)]))[0]), {6: 0})

    def test_three_frees_at_the_end_of_a_plan(self):
        plan = [("hold", 1), ("hold", 4), ("hold", 6), ("work", 1), ("free", 6), ("free", 1), ("free", 4)]
        self.check_tick(([worker(plan=plan)], 7, [(3, 0)]), [(7, 0)], 0)

    def test_a_hold_behind_the_work_is_not_done_with_it(self):
        workers = [worker(plan=[("hold", 1), ("work", 1), ("free", 1), ("hold", 2), ("free", 2)])]
        self.check_tick((workers, 4, [(1, 0)]), [(3, 0)], 0)

    def test_the_others_stay_where_they_are(self):
        workers = [worker(rank=3, plan=[("work", 9)]), worker(rank=7, plan=[("work", 9)]),
                   worker(rank=5, plan=[("work", 9)])]
        self.check_run((workers, 20, [(0, 4), (0, 7), (0, 2)]),
                       ([(0, 4), (0, 8), (0, 2)], 1), ([(0, 4), (1, 0), (0, 2)], 1), ([(0, 4), (1, 0), (0, 3)], 2))

    def test_a_greater_one_that_comes_breaks_in(self):
        self.check_run(begun([worker(rank=1, plan=[("work", 3)]), worker(rank=2, start=1, plan=[("work", 1)])]),
                       ([(0, 1), (0, 0)], 0), ([(0, 1), (1, 0)], 1), ([(0, 2), (1, 0)], 0), ([(1, 0), (1, 0)], 0),
                       ([(1, 0), (1, 0)], None))

    def test_now_far_ahead(self):
        self.check_tick(([worker()], 10 ** 9, [(0, 0)]), [(1, 0)], 0)


class Holds(Ticks):
    def test_one_hold(self):
        self.check_tick(begun([worker(plan=[("hold", 0), ("work", 2), ("free", 0)])]), [(1, 1)], 0)

    def test_several_holds_and_the_whole_work_in_one_tick(self):
        plan = [("hold", 0), ("hold", 3), ("hold", 9), ("work", 1), ("free", 3), ("work", 1), ("free", 0), ("free", 9)]
        self.check_tick(begun([worker(plan=plan)]), [(5, 0)], 0)

    def test_a_free_right_behind_a_hold(self):
        plan = [("hold", 0), ("free", 0), ("work", 2)]
        self.check_tick(begun([worker(plan=plan)]), [(2, 1)], 0)

    def test_frees_and_holds_by_turns(self):
        plan = [("hold", 0), ("hold", 2), ("free", 0), ("free", 2), ("hold", 1), ("free", 1), ("hold", 5), ("work", 3),
                ("free", 5)]
        self.check_tick(begun([worker(plan=plan)]), [(7, 1)], 0)

    def test_the_greater_one_waits_behind_its_hold(self):
        workers = [
            worker(rank=9, start=1, plan=[("hold", 2), ("hold", 5), ("work", 1), ("free", 2), ("free", 5)]),
            worker(rank=1, plan=[("hold", 5), ("work", 3), ("free", 5), ("work", 1)]),
            worker(rank=4, start=1),
        ]
        self.check_run(begun(workers),
                       ([(0, 0), (1, 1), (0, 0)], 1), ([(1, 0), (1, 2), (0, 0)], 1), ([(1, 0), (3, 0), (0, 0)], 1),
                       ([(5, 0), (3, 0), (0, 0)], 0), ([(5, 0), (3, 0), (1, 0)], 2), ([(5, 0), (4, 0), (1, 0)], 1))

    def test_the_one_that_is_lent_to_waits_behind_its_hold(self):
        workers = [
            worker(rank=9, plan=[("hold", 1), ("work", 1), ("free", 1)]),
            worker(rank=2, plan=[("hold", 1), ("work", 1), ("hold", 3), ("hold", 7), ("work", 1), ("free", 1),
                                 ("free", 3), ("free", 7)]),
            worker(rank=1, plan=[("hold", 7), ("work", 4), ("free", 7)]),
            worker(rank=5),
        ]
        shop = (workers, 30, [(0, 0), (2, 0), (1, 1), (0, 0)])
        self.check_run(shop,
                       ([(0, 0), (3, 0), (1, 2), (0, 0)], 2), ([(0, 0), (3, 0), (1, 3), (0, 0)], 2),
                       ([(0, 0), (3, 0), (3, 0), (0, 0)], 2), ([(0, 0), (8, 0), (3, 0), (0, 0)], 1),
                       ([(3, 0), (8, 0), (3, 0), (0, 0)], 0), ([(3, 0), (8, 0), (3, 0), (1, 0)], 3))

    def test_a_hold_of_what_one_between_wants(self):
        plan = [("hold", 4), ("work", 2), ("free", 4)]
        workers = [worker(rank=9, plan=list(plan)), worker(rank=5, plan=list(plan))]
        self.check_run(begun(workers), ([(1, 1), (0, 0)], 0), ([(3, 0), (0, 0)], 0), ([(3, 0), (1, 1)], 1))

    def test_a_hold_and_a_free_that_let_the_greater_one_go_on(self):
        workers = [
            worker(rank=9, plan=[("hold", 1), ("work", 2), ("free", 1)]),
            worker(rank=2, plan=[("hold", 1), ("work", 1), ("hold", 3), ("free", 3), ("free", 1), ("work", 1)]),
        ]
        self.check_run((workers, 5, [(0, 0), (2, 0)]),
                       ([(1, 1), (5, 0)], 0), ([(3, 0), (5, 0)], 0), ([(3, 0), (6, 0)], 1))

    def test_a_tick_of_holds_by_three_workers(self):
        workers = [
            worker(rank=9, plan=[("hold", 1), ("free", 1)]),
            worker(rank=6, plan=[("hold", 2), ("free", 2)]),
            worker(rank=3, plan=[("hold", 2), ("work", 2), ("free", 2)]),
        ]
        self.check_tick(begun(workers), [(2, 0), (2, 0), (1, 1)], 2)
        self.check_tick(turned(begun(workers)), [(1, 1), (2, 0), (2, 0)], 0)

    def test_only_the_chosen_ones_hold_is_done(self):
        workers = [worker(rank=9, plan=[("work", 2)]), worker(rank=6, plan=[("hold", 2), ("free", 2)])]
        self.check_run(begun(workers), ([(0, 1), (0, 0)], 0), ([(1, 0), (0, 0)], 0), ([(1, 0), (2, 0)], None))

    def test_the_plan_ends_without_work_and_nobody_works(self):
        self.check_run(begun([worker(plan=[("hold", 8), ("free", 8)])]), ([(2, 0)], None), ([(2, 0)], None))
        plan = [("hold", 8), ("hold", 9), ("free", 8), ("free", 9), ("hold", 0), ("free", 0)]
        self.check_tick(begun([worker(plan=plan)]), [(6, 0)], None)

    def test_the_plan_ends_without_work_and_another_one_works(self):
        workers = [worker(rank=5, plan=[("work", 1), ("hold", 8), ("free", 8)]), worker(rank=2, plan=[("work", 3)])]
        self.check_run(begun(workers), ([(1, 0), (0, 0)], 0), ([(3, 0), (0, 1)], 1), ([(3, 0), (0, 2)], 1))

    def test_one_whose_start_is_ahead_does_no_hold(self):
        workers = [worker(rank=5, start=3, plan=[("hold", 8), ("free", 8)])]
        shop = begun(workers)
        for wanted in ([(0, 0)], [(0, 0)], [(0, 0)], [(2, 0)]):
            self.check_tick(shop, wanted, None)
            shop, _ = tick(shop)


class Whole(Ticks):
    def test_along_the_trace(self):
        shops = trace_shops()
        for now, who in enumerate(TRACE_WORKED):
            told = tick(shops[now])
            self.assertEqual(told_kinds(told), told_kinds((shops[now + 1], who)))

    def test_in_a_shop_of_all_kinds(self):
        shop = lending_shop(free_rank=6)
        self.check_run(shop,
                       ([(1, 3), (2, 0), (2, 0), (0, 0), (0, 0), (0, 0), (0, 0), (1, 0)], 0),
                       ([(1, 4), (2, 0), (2, 0), (0, 0), (0, 0), (0, 0), (0, 0), (1, 0)], 0),
                       ([(3, 0), (2, 0), (2, 0), (0, 0), (0, 0), (0, 0), (0, 0), (1, 0)], 0),
                       ([(3, 0), (6, 0), (2, 0), (0, 0), (0, 0), (0, 0), (0, 0), (1, 0)], 1),
                       ([(3, 0), (6, 0), (6, 0), (0, 0), (0, 0), (0, 0), (0, 0), (1, 0)], 2),
                       ([(3, 0), (6, 0), (6, 0), (0, 0), (0, 0), (0, 0), (3, 0), (1, 0)], 6),
                       ([(3, 0), (6, 0), (6, 0), (1, 1), (0, 0), (0, 0), (3, 0), (1, 0)], 3))

    def test_many_shops(self):
        for seed in range(80):
            workers = random_workers(seed)
            worked, spots = whole_run(workers)
            shop = begun(workers)
            for now, who in enumerate(worked):
                model = Shop(shop)
                first = model.chosen()
                self.assertEqual(chosen(shop), None if first is None else model.all.index(first))
                self.check_tick(shop, spots[now + 1], who)
                shop, _ = tick(shop)


if __name__ == "__main__":
    unittest.main()
