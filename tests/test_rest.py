import unittest

from lenthaste.shops import begun, held
from lenthaste.ticking import rest_of, tick
from tests.model import Shop
from tests.samples import lending_shop, random_workers, told_kinds, trace_shops, worker


class Rest(unittest.TestCase):
    def check_places(self, plan, wanted):
        """The rest at each of these spots of a plan, alone and beside others."""
        for spot, rest in wanted.items():
            alone = ([worker(plan=plan)], 90, [spot])
            self.assertEqual(told_kinds(rest_of(alone, 0)), told_kinds(rest), spot)
            beside = ([worker(rank=8, plan=[("work", 70)]), worker(plan=plan), worker(rank=9)], 90,
                      [(0, 3), spot, (1, 0)])
            self.assertEqual(rest_of(beside, 1), rest, spot)

    def test_holds_nothing(self):
        plan = [("work", 5), ("hold", 1), ("work", 7), ("free", 1), ("work", 3), ("hold", 2), ("work", 4), ("free", 2)]
        self.check_places(plan, {(0, 0): 0, (0, 4): 0, (1, 0): 0, (4, 0): 0, (4, 2): 0, (5, 0): 0, (8, 0): 0})

    def test_amid_a_work(self):
        plan = [("hold", 1), ("work", 7), ("free", 1), ("work", 3)]
        self.check_places(plan, {(1, 0): 7, (1, 1): 6, (1, 5): 2, (1, 6): 1, (3, 0): 0, (3, 1): 0})

    def test_several_works(self):
        plan = [("hold", 1), ("work", 7), ("work", 20), ("work", 100), ("free", 1), ("work", 3)]
        self.check_places(plan, {(1, 0): 127, (1, 3): 124, (2, 0): 120, (2, 19): 101, (3, 0): 100, (3, 99): 1})

    def test_two_tools_freed_at_different_places(self):
        for order in ((1, 4), (4, 1)):
            plan = [("hold", 1), ("work", 2), ("hold", 4), ("work", 5), ("free", order[0]), ("work", 10),
                    ("free", order[1]), ("work", 30)]
            self.check_places(plan, {(0, 0): 0, (1, 0): 17, (1, 1): 16, (2, 0): 15, (3, 0): 15, (3, 4): 11,
                                     (5, 0): 10, (5, 9): 1, (7, 0): 0})

    def test_the_next_hold_is_taken_ahead_of_the_first_free(self):
        plan = [("hold", 1), ("work", 1), ("hold", 3), ("free", 1), ("work", 2), ("hold", 6), ("work", 4), ("free", 3),
                ("work", 8), ("free", 6), ("work", 50), ("hold", 0), ("work", 60), ("free", 0)]
        self.check_places(plan, {(1, 0): 15, (2, 0): 14, (4, 0): 14, (4, 1): 13, (5, 0): 12, (6, 2): 10, (8, 0): 8,
                                 (10, 0): 0, (11, 0): 0, (12, 0): 60, (14, 0): 0})

    def test_it_holds_nothing_between_a_free_and_the_hold_behind_it(self):
        plan = [("hold", 1), ("work", 2), ("free", 1), ("hold", 2), ("work", 40), ("free", 2)]
        self.check_places(plan, {(1, 0): 2, (1, 1): 1, (3, 0): 0, (4, 0): 40})

    def test_no_work_ahead_of_the_free(self):
        plan = [("hold", 1), ("work", 2), ("hold", 2), ("free", 2), ("free", 1), ("work", 9)]
        self.check_places(plan, {(1, 1): 1, (2, 0): 0, (5, 0): 0})

    def test_ahead_of_its_start(self):
        self.assertEqual(rest_of(begun([worker(start=9, plan=[("hold", 1), ("work", 2), ("free", 1)])]), 0), 0)

    def test_a_lender_adds_nothing(self):
        self.assertEqual([rest_of(lending_shop(), k) for k in range(8)], [3, 1, 1, 0, 0, 0, 0, 0])

    def test_along_the_trace(self):
        wanted = [(0, 0, 0), (2, 0, 0), (1, 0, 0), (1, 0, 0), (0, 0, 0), (0, 0, 0), (0, 0, 0), (0, 0, 0), (0, 0, 2),
                  (0, 0, 1), (0, 0, 0), (0, 0, 0)]
        for shop, rests in zip(trace_shops(), wanted):
            self.assertEqual(tuple(rest_of(shop, k) for k in range(3)), rests)

    def test_many_shops(self):
        for seed in range(60):
            shop, who = begun(random_workers(seed)), 0
            while shop[1] < 13 or who is not None:
                rests = [rest_of(shop, k) for k in range(len(shop[0]))]
                self.assertEqual(rests, [one.rest() for one in Shop(shop).all])
                for k, rest in enumerate(rests):
                    self.assertTrue(rest == 0 or k in held(shop).values())
                shop, who = tick(shop)


if __name__ == "__main__":
    unittest.main()
