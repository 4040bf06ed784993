import unittest

from lenthaste import shops
from lenthaste.errors import BadPlan, HasteError
from lenthaste.shops import begun
from tests.samples import lists_in, picture, refusal, told_kinds, trace_workers, worker


class Ordinary(unittest.TestCase):
    def check_begun(self, workers):
        before = picture(workers)
        shop = begun(workers)
        wanted = (list(workers), 0, [(0, 0) for _ in workers])
        self.assertEqual(told_kinds(shop), told_kinds(wanted))
        self.assertEqual(picture(workers), before)

    def test_defined_in_shops(self):
        for name in ("begun", "there", "held", "step_of"):
            self.assertEqual(getattr(shops, name).__module__, "lenthaste.shops")

    def test_one_worker(self):
        self.check_begun([worker()])

    def test_whole_shop(self):
        plan = [("hold", 1), ("work", 3), ("free", 1)]
        shop = begun([(5, 2, plan), (1, 0, [("work", 2)])])
        wanted = ([(5, 2, [("hold", 1), ("work", 3), ("free", 1)]), (1, 0, [("work", 2)])], 0, [(0, 0), (0, 0)])
        self.assertEqual(shop, wanted)
        self.assertEqual(told_kinds(shop), told_kinds(wanted))

    def test_two_to_eight_workers(self):
        for many in range(2, 9):
            self.check_begun([worker(rank=many - k) for k in range(many)])

    def test_three_that_share(self):
        self.check_begun(trace_workers())

    def test_ranks(self):
        for rank in (1, 2, 999999, 10 ** 6):
            self.check_begun([worker(rank=rank)])

    def test_ranks_in_any_order(self):
        self.check_begun([worker(rank=rank) for rank in (7, 10 ** 6, 1, 8)])

    def test_starts(self):
        for start in (0, 1, 999, 1000):
            self.check_begun([worker(start=start)])

    def test_the_same_start_twice(self):
        self.check_begun([worker(rank=1, start=4), worker(rank=2, start=4)])

    def test_now_is_nought_whatever_the_starts(self):
        shop = begun([worker(rank=1, start=6), worker(rank=2, start=3)])
        self.assertEqual(shop[1], 0)

    def test_plans_of_one_and_of_forty_steps(self):
        self.check_begun([worker(plan=[("work", 7)])])
        self.check_begun([worker(plan=[("work", 1)] * 40)])
        self.check_begun([worker(plan=[("hold", 3), ("free", 3)] * 20)])

    def test_works(self):
        for many in (1, 2, 99, 100):
            self.check_begun([worker(plan=[("work", many)])])

    def test_tools(self):
        for tool in range(10):
            self.check_begun([worker(plan=[("hold", tool), ("free", tool)])])

    def test_all_tools_at_once(self):
        plan = [("hold", tool) for tool in range(10)] + [("free", tool) for tool in range(10)]
        self.check_begun([worker(plan=plan)])

    def test_frees_in_another_order_than_the_holds(self):
        holds = [("hold", 1), ("hold", 4), ("hold", 6)]
        for order in ((1, 4, 6), (6, 4, 1), (4, 1, 6), (4, 6, 1), (1, 6, 4), (6, 1, 4)):
            self.check_begun([worker(plan=holds + [("free", tool) for tool in order])])

    def test_held_again_after_it_was_freed(self):
        self.check_begun([worker(plan=[("hold", 2), ("free", 2), ("work", 1), ("hold", 2), ("free", 2)])])
        plan = [("hold", 2), ("hold", 5), ("free", 5), ("hold", 5), ("free", 2), ("free", 5)]
        self.check_begun([worker(plan=plan)])

    def test_a_lesser_tool_after_a_greater_one_was_freed(self):
        self.check_begun([worker(plan=[("hold", 5), ("free", 5), ("hold", 3), ("free", 3)])])
        plan = [("hold", 2), ("hold", 5), ("free", 5), ("hold", 3), ("free", 2), ("free", 3)]
        self.check_begun([worker(plan=plan)])

    def test_a_plan_that_begins_and_ends_with_work(self):
        self.check_begun([worker(plan=[("work", 1), ("hold", 0), ("work", 2), ("free", 0), ("work", 3)])])

    def test_two_workers_may_want_one_tool(self):
        plan = [("hold", 0), ("work", 1), ("free", 0)]
        self.check_begun([worker(rank=1, plan=list(plan)), worker(rank=2, plan=list(plan))])


class NewLists(unittest.TestCase):
    def check_new(self, workers):
        shop = begun(workers)
        told = [id(one) for one in lists_in(shop)]
        handed = [id(one) for one in lists_in(workers)]
        self.assertEqual(len(told), 2 + len(workers))
        self.assertEqual(len(set(told)), len(told))
        self.assertEqual(set(told) & set(handed), set())

    def test_no_list_was_handed_in(self):
        self.check_new([worker()])
        self.check_new(trace_workers())

    def test_one_plan_for_two_workers(self):
        plan = [("work", 2)]
        self.check_new([(1, 0, plan), (2, 0, plan), (3, 5, plan)])

    def test_calls_share_no_list(self):
        workers = trace_workers()
        first = begun(workers)
        second = begun(workers)
        self.assertEqual(first, second)
        ids = [{id(one) for one in lists_in(shop)} for shop in (first, second)]
        self.assertEqual(ids[0] & ids[1], set())

    def test_a_told_shop_told_on_is_new_again(self):
        self.check_new(begun(trace_workers())[0])

    def test_changes_of_what_is_told(self):
        workers = trace_workers()
        before = picture(workers)
        first = begun(workers)
        second = begun(workers)
        kept = told_kinds(second)
        first[0][0][2].append(("work", 9))
        first[0][1][2].clear()
        first[0].pop()
        first[2][0] = (3, 1)
        first[2].append((0, 0))
        self.assertEqual(picture(workers), before)
        self.assertEqual(told_kinds(second), kept)
        self.assertEqual(told_kinds(begun(workers)), kept)

    def test_changes_of_what_was_handed_in(self):
        workers = trace_workers()
        shop = begun(workers)
        kept = told_kinds(shop)
        workers[0][2].append(("work", 9))
        workers[1][2][0] = ("work", 50)
        workers.pop()
        self.assertEqual(told_kinds(shop), kept)

    def test_plans_of_one_list_go_their_own_ways(self):
        plan = [("work", 2)]
        shop = begun([(1, 0, plan), (2, 0, plan)])
        shop[0][0][2].append(("work", 3))
        self.assertEqual(shop[0][1][2], [("work", 2)])
        self.assertEqual(plan, [("work", 2)])


class NothingIsKept(unittest.TestCase):
    def test_ranks_of_an_earlier_call_are_free(self):
        self.assertEqual(begun([worker(rank=3)]), begun([worker(rank=3)]))

    def test_a_refused_call_leaves_nothing(self):
        workers = trace_workers()
        wanted = told_kinds(begun(workers))
        wrong = workers + [worker(rank=4, plan=[("hold", 3)])]
        before = picture(wrong)
        for _ in range(2):
            self.assertIs(type(refusal(begun, wrong)), BadPlan)
            self.assertEqual(picture(wrong), before)
        self.assertEqual(told_kinds(begun(workers)), wanted)

    def test_tools_of_one_plan_do_not_bind_another(self):
        high = [("hold", 9), ("free", 9)]
        low = [("hold", 0), ("free", 0)]
        self.assertEqual(begun([(1, 0, high), (2, 0, low)])[2], [(0, 0), (0, 0)])
        with self.assertRaises(HasteError):
            begun([(1, 0, [("hold", 9)]), (2, 0, [("free", 9)])])


if __name__ == "__main__":
    unittest.main()
