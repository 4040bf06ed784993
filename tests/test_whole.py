"""Point 1 and the refusals of a k, over the whole program."""

import unittest

from lenthaste.errors import NoWorker
from lenthaste.lending import chain, lenders, rank_of, waits
from lenthaste.running import ended, run, waited
from lenthaste.shops import begun, held, step_of, there
from lenthaste.ticking import chosen, rest_of, tick
from tests.samples import (
    NO_WORKERS, WRONG_WORKERS, check_refused, lending_shop, lists_in, own_plans, picture, random_workers, refusal,
    told_kinds, trace_shops, trace_workers, turned, worker,
)

OF_A_SHOP = [there, held, chosen, tick]
OF_A_NUMBER = [step_of, waits, chain, rank_of, lenders, rest_of]


def shared_plans():
    """Three workers with one and the same list as their plans."""
    plan = [("hold", 1), ("work", 3), ("free", 1)]
    return [(4, 0, plan), (6, 1, plan), (5, 2, plan)]


def shops():
    """Shops at rest, amid things and behind all of them, and one of shared plans."""
    return trace_shops() + [
        lending_shop(), turned(lending_shop(now=50)), begun(random_workers(3)), run(random_workers(5), 9)[0],
        (shared_plans(), 2, [(1, 1), (0, 0), (0, 0)]),
    ]


def workers_lists():
    """What begun takes."""
    return [trace_workers(), [worker()], shared_plans(), random_workers(3), random_workers(5), random_workers(8)]


def calls():
    """Each function with each thing that it may be handed."""
    for at in range(len(shops())):
        for function in OF_A_SHOP:
            yield function, (shops()[at],)
        for function in OF_A_NUMBER:
            for k in range(len(shops()[at][0])):
                yield function, (shops()[at], k)
    for at in range(len(workers_lists())):
        for function in (begun, ended):
            yield function, (workers_lists()[at],)
        for many in (0, 1, 4, 100):
            yield run, (workers_lists()[at], many)
        for k in range(len(workers_lists()[at])):
            yield waited, (workers_lists()[at], k)


def spoil(thing):
    """Changes each list and dict within thing."""
    if isinstance(thing, dict):
        thing[0], thing[77] = 99, 99
    if isinstance(thing, (list, tuple)):
        for item in thing:
            spoil(item)
    if isinstance(thing, list):
        thing.reverse()
        thing.append("spoilt")


def as_told(thing):
    """What is told, with the classes of all values, dicts as their pairs."""
    return told_kinds(sorted(thing.items()) if isinstance(thing, dict) else thing)


class NothingIsChanged(unittest.TestCase):
    def test_what_is_handed_in_stays(self):
        for function, given in calls():
            before = picture(given)
            function(*given)
            self.assertEqual(picture(given), before, function.__name__)

    def test_also_where_it_is_refused(self):
        for wanted, workers in WRONG_WORKERS:
            for function, more in ((begun, ()), (ended, ()), (run, (3,)), (waited, (0,)), (waited, (-1,))):
                before = picture(workers)
                self.assertIs(type(refusal(function, workers, *more)), wanted)
                self.assertEqual(picture(workers), before)


class NothingIsKept(unittest.TestCase):
    def test_a_second_call_tells_the_same(self):
        for function, given in calls():
            first = function(*given)
            wanted = as_told(first)
            spoil(first)
            self.assertEqual(as_told(function(*given)), wanted, function.__name__)

    def test_a_change_of_what_is_told_changes_nothing_handed_in(self):
        for function, given in calls():
            before = picture(given)
            spoil(function(*given))
            self.assertEqual(picture(given), before, function.__name__)

    def test_a_change_of_what_was_handed_in_changes_nothing_told(self):
        for function, given in calls():
            told = function(*given)
            wanted = as_told(told)
            spoil(given)
            self.assertEqual(as_told(told), wanted, function.__name__)

    def test_a_shop_that_was_changed_is_read_anew(self):
        plan = [("hold", 1), ("work", 3), ("free", 1)]
        shop = ([(4, 0, list(plan)), (6, 0, list(plan))], 5, [(1, 0), (0, 0)])
        self.assertEqual((waits(shop, 1), rank_of(shop, 0), chosen(shop), rest_of(shop, 0)), (0, 6, 0, 3))
        shop[2][0] = (3, 0)
        self.assertEqual((waits(shop, 1), rank_of(shop, 0), chosen(shop), rest_of(shop, 0)), (None, 4, 1, 0))

    def test_calls_by_turns(self):
        first, second = trace_workers(), own_plans(random_workers(5))
        wanted = [(run(workers, 20), ended(workers), waited(workers, 0)) for workers in (first, second)]
        for _ in range(2):
            for workers, told in zip((first, second), wanted):
                self.assertEqual((run(workers, 20), ended(workers), waited(workers, 0)), told)


class NewLists(unittest.TestCase):
    def check_new(self, told, given, many):
        ids = [id(one) for one in lists_in(told)]
        self.assertEqual(len(ids), many)
        self.assertEqual(len(set(ids)), many)
        self.assertEqual(set(ids) & {id(one) for one in lists_in(given)}, set())

    def test_a_tick(self):
        for shop in shops():
            self.check_new(tick(shop), shop, len(shop[0]) + 2)

    def test_a_run(self):
        for workers in workers_lists():
            for many in (0, 1, 4, 100):
                self.check_new(run(workers, many), workers, len(workers) + 3)

    def test_the_lists_of_numbers(self):
        for shop in shops():
            for k in range(len(shop[0])):
                self.check_new(chain(shop, k), shop, 1)
                self.check_new(lenders(shop, k), shop, 1)
        for workers in workers_lists():
            self.check_new(ended(workers), workers, 1)
            self.check_new(waited(workers, 0), workers, 1)

    def test_each_call_tells_its_own(self):
        for function, given in calls():
            first, second = function(*given), function(*given)
            ids = [{id(one) for one in lists_in(told)} for told in (first, second)]
            self.assertEqual(ids[0] & ids[1], set(), function.__name__)

    def test_one_plan_for_three_workers(self):
        shop, _ = tick((shared_plans(), 2, [(1, 1), (0, 0), (0, 0)]))
        shop[0][0][2].append(("work", 9))
        self.assertEqual([plan for _, _, plan in shop[0]][1:], [plan for _, _, plan in shared_plans()][1:])


class NoWorkers(unittest.TestCase):
    def test_in_shops_of_three(self):
        for shop in trace_shops():
            for function in OF_A_NUMBER:
                for k in NO_WORKERS:
                    check_refused(self, NoWorker, function, shop, k)

    def test_in_shops_of_one_to_eight(self):
        for many in range(1, 9):
            shop = begun([worker(rank=k + 1) for k in range(many)])
            for function in OF_A_NUMBER:
                for k in (-many, -1, many, many + 1, 1000, True, False, None, "", "0", [0], (0,)):
                    check_refused(self, NoWorker, function, shop, k)
                self.assertIsNone(refusal(function, shop, 0))
                self.assertIsNone(refusal(function, shop, many - 1))

    def test_where_somebody_waits(self):
        for function in OF_A_NUMBER:
            for k in (-1, -8, 8, True, False, None, "7"):
                check_refused(self, NoWorker, function, lending_shop(), k)


if __name__ == "__main__":
    unittest.main()
