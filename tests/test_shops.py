import unittest

from lenthaste.errors import NoWorker
from lenthaste.shops import begun, held, step_of, there
from tests.samples import (
    NO_WORKERS, TRACE, check_refused, lists_in, picture, told_kinds, trace_shops, trace_workers, worker,
)


def all_read(shop):
    return (there(shop), held(shop), [step_of(shop, k) for k in range(len(shop[0]))])


class AlongTheTrace(unittest.TestCase):
    def test_there(self):
        for shop, (_, wanted, _, _) in zip(trace_shops(), TRACE):
            self.assertEqual(told_kinds(there(shop)), told_kinds(wanted))

    def test_held(self):
        for shop, (_, _, wanted, _) in zip(trace_shops(), TRACE):
            told = held(shop)
            self.assertIs(type(told), dict)
            self.assertEqual(told, wanted)
            self.assertEqual(told_kinds(sorted(told.items())), told_kinds(sorted(wanted.items())))

    def test_step_of(self):
        for shop, (_, _, _, wanted) in zip(trace_shops(), TRACE):
            told = [step_of(shop, k) for k in range(3)]
            self.assertEqual(told_kinds(told), told_kinds(wanted))

    def test_begun_is_the_first_of_them(self):
        self.assertEqual(begun(trace_workers()), trace_shops()[0])


class There(unittest.TestCase):
    def test_from_the_start_on(self):
        for start in (0, 1, 5, 1000):
            shop = begun([worker(start=start)])
            for now in (0, 1, 4, 5, 6, 999, 1000, 1001, 5000):
                told = there((shop[0], now, shop[2]))
                self.assertEqual(told, [0] if now >= start else [])

    def test_as_long_as_steps_are_left(self):
        workers = [worker(plan=[("work", 2), ("work", 1), ("work", 1)])]
        for place in range(3):
            self.assertEqual(there((workers, 9, [(place, 0)])), [0])
        self.assertEqual(there((workers, 9, [(0, 1)])), [0])
        self.assertEqual(there((workers, 9, [(3, 0)])), [])

    def test_at_a_hold_also_of_what_another_one_holds(self):
        plan = [("hold", 1), ("work", 2), ("free", 1)]
        workers = [worker(rank=1, plan=list(plan)), worker(rank=2, plan=list(plan))]
        self.assertEqual(there((workers, 1, [(1, 1), (0, 0)])), [0, 1])

    def test_rising_whatever_ranks_and_starts(self):
        workers = [worker(rank=9 - k, start=8 - k) for k in range(8)]
        spots = [(0, 0)] * 8
        self.assertEqual(there((workers, 0, list(spots))), [])
        self.assertEqual(there((workers, 4, list(spots))), [4, 5, 6, 7])
        self.assertEqual(there((workers, 8, list(spots))), [0, 1, 2, 3, 4, 5, 6, 7])
        spots[2] = spots[7] = (1, 0)
        self.assertEqual(there((workers, 8, list(spots))), [0, 1, 3, 4, 5, 6])


class Held(unittest.TestCase):
    def test_nothing_as_it_begins(self):
        self.assertEqual(held(begun([worker(plan=[("hold", 1), ("free", 1)])])), {})

    def test_each_place_of_a_plan(self):
        plan = [("hold", 0), ("hold", 2), ("work", 1), ("hold", 9), ("work", 1), ("free", 2), ("work", 1),
                ("free", 9), ("hold", 3), ("work", 1), ("free", 0), ("free", 3), ("work", 1)]
        by_place = {0: [], 1: [0], 2: [0, 2], 3: [0, 2], 4: [0, 2, 9], 6: [0, 9], 8: [0], 9: [0, 3], 12: [], 13: []}
        other = worker(rank=2, plan=[("hold", 5), ("work", 1), ("free", 5)])
        for place, tools in by_place.items():
            alone = ([worker(plan=plan)], 20, [(place, 0)])
            self.assertEqual(held(alone), {tool: 0 for tool in tools})
            beside = ([other, worker(plan=plan)], 20, [(1, 0), (place, 0)])
            self.assertEqual(held(beside), {**{tool: 1 for tool in tools}, 5: 0})

    def test_held_again(self):
        workers = [worker(plan=[("hold", 2), ("work", 1), ("free", 2), ("hold", 2), ("work", 2), ("free", 2)])]
        for spot, wanted in (((0, 0), {}), ((1, 0), {2: 0}), ((3, 0), {}), ((4, 0), {2: 0}), ((4, 1), {2: 0}),
                             ((6, 0), {})):
            self.assertEqual(held((workers, 20, [spot])), wanted)

    def test_amid_a_work(self):
        workers = [worker(plan=[("hold", 7), ("work", 100), ("free", 7)])]
        for gone in (0, 1, 50, 99):
            self.assertEqual(held((workers, 200, [(1, gone)])), {7: 0})

    def test_handed_on_from_one_to_another(self):
        plan = [("hold", 1), ("work", 2), ("free", 1)]
        workers = [worker(rank=k + 1, plan=list(plan)) for k in range(3)]
        self.assertEqual(held((workers, 9, [(0, 0), (1, 1), (0, 0)])), {1: 1})
        self.assertEqual(held((workers, 9, [(0, 0), (3, 0), (0, 0)])), {})
        self.assertEqual(held((workers, 9, [(1, 0), (3, 0), (0, 0)])), {1: 0})
        self.assertEqual(held((workers, 9, [(0, 0), (3, 0), (1, 0)])), {1: 2})

    def test_each_of_eight_holds_one(self):
        workers = [worker(rank=k + 1, plan=[("hold", 9 - k), ("work", 1), ("free", 9 - k)]) for k in range(8)]
        self.assertEqual(held((workers, 9, [(1, 0)] * 8)), {9 - k: k for k in range(8)})


class StepOf(unittest.TestCase):
    def test_each_place_of_a_plan(self):
        plan = [("hold", 1), ("work", 3), ("free", 1), ("work", 2), ("hold", 0), ("free", 0)]
        for place in (0, 1, 3, 4):
            shop = ([worker(), worker(rank=2, plan=plan)], 30, [(1, 0), (place, 0)])
            self.assertEqual(told_kinds(step_of(shop, 1)), told_kinds(plan[place]))
            self.assertIsNone(step_of(shop, 0))
        self.assertIsNone(step_of(([worker(plan=plan)], 30, [(6, 0)]), 0))

    def test_amid_a_work_the_whole_step(self):
        self.assertEqual(step_of(([worker(plan=[("work", 5)])], 3, [(0, 3)]), 0), ("work", 5))

    def test_ahead_of_its_start(self):
        self.assertEqual(step_of(begun([worker(start=1000, plan=[("work", 4)])]), 0), ("work", 4))

    def test_the_last_of_eight(self):
        shop = begun([worker(rank=k + 1, plan=[("work", k + 1)]) for k in range(8)])
        self.assertEqual([step_of(shop, k) for k in range(8)], [("work", k + 1) for k in range(8)])

    def test_no_worker(self):
        for shop in trace_shops():
            for k in NO_WORKERS:
                check_refused(self, NoWorker, step_of, shop, k)

    def test_no_worker_by_how_many_there_are(self):
        for many in range(1, 9):
            shop = begun([worker(rank=k + 1) for k in range(many)])
            for k in (many, many + 1, -1, -many, True, False, None):
                check_refused(self, NoWorker, step_of, shop, k)
            self.assertEqual(step_of(shop, many - 1), ("work", 1))


class NewAndUnchanged(unittest.TestCase):
    def test_the_shop_stays(self):
        for shop in trace_shops():
            before = picture(shop)
            all_read(shop)
            self.assertEqual(picture(shop), before)

    def test_a_new_list_and_dict_at_each_call(self):
        for shop in trace_shops():
            numbers, tools = there(shop), held(shop)
            self.assertIsNot(numbers, there(shop))
            self.assertIsNot(tools, held(shop))
            self.assertNotIn(id(numbers), [id(one) for one in lists_in(shop)])

    def test_changes_of_what_is_told(self):
        for shop in trace_shops():
            before, wanted = picture(shop), all_read(shop)
            there(shop).append(77)
            held(shop)[77] = 77
            self.assertEqual(picture(shop), before)
            self.assertEqual(all_read(shop), wanted)

    def test_nothing_is_kept_where_a_shop_is_changed(self):
        shop = trace_shops()[3]
        all_read(shop)
        shop[2][:] = [(3, 0), (1, 0), (0, 0)]
        self.assertEqual(all_read(shop), ([0, 1], {}, [("work", 2), ("hold", 1), ("hold", 0)]))


if __name__ == "__main__":
    unittest.main()
