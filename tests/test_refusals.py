import unittest

from lenthaste.errors import BadPlan, BadRank, BadStart, BadWorker, TooMany
from lenthaste.shops import begun
from tests.samples import NO_NUMBERS, check_refused, worker

# One wrong worker for each refusal, right in all that is looked at ahead.
WRONG = [
    (BadWorker, [1, 0, [("work", 1)]]),
    (BadRank, (0, 0, [("work", 1)])),
    (BadStart, (50, -1, [("work", 1)])),
    (BadPlan, (60, 0, [])),
]


class Refused(unittest.TestCase):
    def check_each_place(self, wanted, wrong):
        """A wrong worker is refused alone, as the first, amid others and as the last."""
        first, second = worker(rank=10), worker(rank=20)
        for given in ([wrong], [wrong, first, second], [first, wrong, second], [first, second, wrong]):
            check_refused(self, wanted, begun, given)

    def check_plan(self, plan):
        self.check_each_place(BadPlan, worker(plan=plan))

    def check_step(self, step):
        """A wrong step is refused alone and at each place of a plan."""
        right = [("hold", 3), ("work", 2), ("free", 3)]
        self.check_plan([step])
        for at in range(4):
            self.check_plan(right[:at] + [step] + right[at:])


class Counts(Refused):
    def test_no_worker(self):
        check_refused(self, TooMany, begun, [])

    def test_nine_and_more(self):
        for many in (9, 10, 30):
            check_refused(self, TooMany, begun, [worker(rank=k + 1) for k in range(many)])


class Workers(Refused):
    def test_no_tuples(self):
        for thing in ([1, 0, [("work", 1)]], None, 3, 0, True, False, "", "abc", [], {1: 2}):
            self.check_each_place(BadWorker, thing)

    def test_tuples_of_another_length(self):
        for thing in ((), (1,), (1, 0), (1, 0, [("work", 1)], 4), (1, 0, [("work", 1)], None, None)):
            self.check_each_place(BadWorker, thing)


class Ranks(Refused):
    def test_out_of_bounds(self):
        for rank in (0, -1, -5, 10 ** 6 + 1, 10 ** 30, -10 ** 30):
            self.check_each_place(BadRank, worker(rank=rank))

    def test_no_numbers(self):
        for rank in NO_NUMBERS:
            self.check_each_place(BadRank, worker(rank=rank))

    def test_stood_ahead(self):
        check_refused(self, BadRank, begun, [worker(rank=1), worker(rank=1)])
        check_refused(self, BadRank, begun, [worker(rank=4), worker(rank=5), worker(rank=4)])
        check_refused(self, BadRank, begun, [worker(rank=4), worker(rank=5), worker(rank=5)])
        for rank in range(1, 8):
            check_refused(self, BadRank, begun, [worker(rank=k) for k in (1, 2, 3, 4, 5, 6, 7, rank)])
        check_refused(self, BadRank, begun, [worker(rank=10 ** 6), worker(rank=10 ** 6, start=9)])

    def test_one_and_the_same_worker_twice(self):
        one = worker(rank=6)
        check_refused(self, BadRank, begun, [one, one])


class Starts(Refused):
    def test_out_of_bounds(self):
        for start in (-1, -2, 1001, 10 ** 30):
            self.check_each_place(BadStart, worker(start=start))

    def test_no_numbers(self):
        for start in NO_NUMBERS:
            self.check_each_place(BadStart, worker(start=start))


class Plans(Refused):
    def check_whole(self, plan):
        self.check_each_place(BadPlan, (1, 0, plan))

    def test_no_lists(self):
        for plan in ((("work", 1),), ("work", 1), (), None, "", "work", 0, 1, True, {0: ("work", 1)}):
            self.check_whole(plan)

    def test_no_step_and_too_many(self):
        self.check_whole([])
        for many in (41, 42, 100):
            self.check_plan([("work", 1)] * many)
        self.check_plan([("hold", 1), ("free", 1)] * 20 + [("work", 1)])

    def test_steps_that_are_no_pairs(self):
        for step in (["work", 1], "work", "ab", None, 1, True, [], (), ("work",), ("work", 1, 1), ("hold", 1, None)):
            self.check_step(step)

    def test_other_words(self):
        for word in ("", "works", "Work", "WORK", " work", "wor", "rest", "held", "freed"):
            self.check_step((word, 1))

    def test_words_that_are_no_texts(self):
        for word in (None, True, False, 0, 1, [], ["work"], (), ("work",), ("hold", 1)):
            self.check_step((word, 1))

    def test_pairs_the_other_way_round(self):
        self.check_step((1, "work"))

    def test_works_out_of_bounds(self):
        for many in (0, -1, 101, 10 ** 30):
            self.check_step(("work", many))

    def test_works_of_no_numbers(self):
        for many in NO_NUMBERS:
            self.check_step(("work", many))

    def test_tools_out_of_bounds(self):
        for tool in (-1, 10, 11, 10 ** 30):
            self.check_step(("hold", tool))
            self.check_step(("free", tool))
            self.check_plan([("hold", tool), ("free", tool)])

    def test_tools_that_are_no_numbers(self):
        for tool in NO_NUMBERS:
            self.check_step(("hold", tool))
            self.check_step(("free", tool))
            self.check_plan([("hold", tool), ("free", tool)])

    def test_truths_are_no_tools_beside_the_like_numbers(self):
        for number, truth in ((0, False), (1, True)):
            self.check_plan([("hold", number), ("free", truth)])
            self.check_plan([("hold", truth), ("free", number)])

    def test_holds_that_do_not_rise(self):
        self.check_plan([("hold", 3), ("hold", 2), ("free", 2), ("free", 3)])
        self.check_plan([("hold", 3), ("work", 1), ("hold", 0), ("free", 3), ("free", 0)])
        self.check_plan([("hold", 3), ("hold", 5), ("hold", 4), ("free", 3), ("free", 4), ("free", 5)])

    def test_a_tool_held_twice(self):
        self.check_plan([("hold", 3), ("hold", 3), ("free", 3)])
        self.check_plan([("hold", 3), ("hold", 3), ("free", 3), ("free", 3)])
        self.check_plan([("hold", 3), ("hold", 6), ("hold", 3), ("free", 3), ("free", 6)])

    def test_each_one_that_is_held_then_counts(self):
        self.check_plan([("hold", 2), ("hold", 5), ("free", 2), ("hold", 3), ("free", 3), ("free", 5)])
        plan = [("hold", 1), ("hold", 8), ("hold", 9), ("free", 9), ("hold", 7), ("free", 7), ("free", 8), ("free", 1)]
        self.check_plan(plan)

    def test_frees_of_what_is_not_held(self):
        self.check_plan([("free", 0)])
        self.check_plan([("free", 2), ("hold", 2)])
        self.check_plan([("hold", 2), ("free", 3), ("free", 2)])
        self.check_plan([("hold", 2), ("free", 2), ("free", 2)])
        self.check_plan([("hold", 2), ("work", 2), ("free", 2), ("work", 1), ("free", 2)])

    def test_tools_kept_at_the_end(self):
        self.check_plan([("hold", 0)])
        self.check_plan([("hold", 0), ("work", 1)])
        self.check_plan([("hold", 2), ("hold", 5), ("free", 2)])
        self.check_plan([("hold", 2), ("hold", 5), ("free", 5)])
        self.check_plan([("hold", 2), ("free", 2), ("hold", 2)])


class Order(Refused):
    def test_too_many_ahead_of_all(self):
        for _, wrong in WRONG:
            check_refused(self, TooMany, begun, [wrong] * 9)
            check_refused(self, TooMany, begun, [wrong] + [worker(rank=k + 1) for k in range(8)])
        check_refused(self, TooMany, begun, [worker()] * 9)
        check_refused(self, TooMany, begun, [None] * 20)

    def test_of_two_wrong_workers_the_one_ahead(self):
        for wanted, wrong in WRONG:
            for _, other in WRONG:
                check_refused(self, wanted, begun, [wrong, other])
                check_refused(self, wanted, begun, [worker(rank=7), wrong, worker(rank=8), other])

    def test_a_rank_stood_ahead_waits_for_its_turn(self):
        check_refused(self, BadPlan, begun, [worker(rank=7, plan=[]), worker(rank=7)])
        check_refused(self, BadStart, begun, [worker(rank=7, start=-1), worker(rank=7)])
        check_refused(self, BadRank, begun, [worker(rank=7), worker(rank=7), worker(rank=8, start=-1)])

    def test_within_one_worker(self):
        check_refused(self, BadWorker, begun, [[0, -1, []]])
        check_refused(self, BadWorker, begun, [(0, -1)])
        check_refused(self, BadWorker, begun, [(0, -1, [], None)])
        check_refused(self, BadRank, begun, [(0, -1, [])])
        check_refused(self, BadRank, begun, [(0, -1, [("work", 1)])])
        check_refused(self, BadRank, begun, [(0, 0, [])])
        check_refused(self, BadRank, begun, [(None, None, None)])
        check_refused(self, BadStart, begun, [(1, -1, [])])
        check_refused(self, BadStart, begun, [(1, None, None)])
        check_refused(self, BadPlan, begun, [(1, 0, None)])

    def test_a_rank_stood_ahead_comes_before_start_and_plan(self):
        check_refused(self, BadRank, begun, [worker(), worker(start=-1)])
        check_refused(self, BadRank, begun, [worker(), worker(plan=[])])
        check_refused(self, BadRank, begun, [worker(), worker(start=1001, plan=[])])


if __name__ == "__main__":
    unittest.main()
