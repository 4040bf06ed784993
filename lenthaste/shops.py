"""Shops: how one begins, and what can be read off it."""

from lenthaste.errors import BadPlan, BadRank, BadStart, BadWorker, NoWorker, TooMany
from lenthaste.plans import held_after, is_number, is_plan

MOST_WORKERS = 8
MOST_RANK = 1000000
MOST_START = 1000


def check_worker(worker, ranks):
    """Refuses what is no worker behind workers of these ranks."""
    if not isinstance(worker, tuple) or len(worker) != 3:
        raise BadWorker("a worker is a tuple (rank, start, plan)")
    rank, start, plan = worker
    if not is_number(rank, 1, MOST_RANK):
        raise BadRank(f"a rank is a number from 1 to {MOST_RANK}")
    if rank in ranks:
        raise BadRank("a worker ahead has this rank")
    if not is_number(start, 0, MOST_START):
        raise BadStart(f"a start is a number from 0 to {MOST_START}")
    if not is_plan(plan):
        raise BadPlan("a plan is a list of steps that frees each tool it holds")


def check_number(shop, k):
    """Refuses a k that is no worker's number, whatever it is."""
    if not is_number(k, 0, len(shop[0]) - 1):
        raise NoWorker("there is no worker of this number")


def plan_of(shop, k):
    """Worker k's plan, the very list that stands in the shop."""
    return shop[0][k][2]


def place_of(shop, k):
    """How many steps of its plan are behind worker k."""
    return shop[2][k][0]


def own_rank(shop, k):
    """Worker k's own rank, whatever it is lent."""
    return shop[0][k][0]


def copied(workers):
    """The workers in a new list, each with a new plan."""
    # Two workers may have been handed in with one list as their plan.
    return [(rank, start, list(plan)) for rank, start, plan in workers]


def begun(workers):
    """The shop in which nothing is done yet, at tick 0."""
    if not 1 <= len(workers) <= MOST_WORKERS:
        raise TooMany(f"there are 1 to {MOST_WORKERS} workers")
    ranks = []
    for worker in workers:
        check_worker(worker, ranks)
        ranks.append(worker[0])
    return copied(workers), 0, [(0, 0) for _ in workers]


def has_steps(shop, k):
    """Whether worker k has steps left."""
    return place_of(shop, k) < len(plan_of(shop, k))


def is_there(shop, k):
    """Whether worker k's start is not above now and steps are left to it."""
    return shop[0][k][1] <= shop[1] and has_steps(shop, k)


def there(shop):
    """The numbers of the workers that are there, rising."""
    return [k for k in range(len(shop[0])) if is_there(shop, k)]


def held(shop):
    """The dict from the tools that are held to the workers that hold them."""
    holders = {}
    for k in range(len(shop[0])):
        for tool in held_after(plan_of(shop, k)[:place_of(shop, k)]):
            holders[tool] = k
    return holders


def step_of(shop, k):
    """The step at worker k's place, or None behind its last one."""
    check_number(shop, k)
    if not has_steps(shop, k):
        return None
    return plan_of(shop, k)[place_of(shop, k)]
