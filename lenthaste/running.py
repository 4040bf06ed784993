"""Runs: many ticks, when each worker ended, and when one waited."""

from lenthaste.shops import begun, check_number, has_steps, own_rank
from lenthaste.ticking import tick


def unfinished(shop):
    """The numbers of the workers that have steps left, rising."""
    return [k for k in range(len(shop[0])) if has_steps(shop, k)]


def run(workers, many):
    """The shop behind many ticks, and the list of who worked, tick by tick."""
    shop = begun(workers)
    worked = []
    while len(worked) < many and unfinished(shop):
        shop, k = tick(shop)
        worked.append(k)
    # Where no steps are left, a tick changes nothing but what comes next.
    idle = max(0, many - len(worked))
    return (shop[0], shop[1] + idle, shop[2]), worked + [None] * idle


def ended(workers):
    """The list, by workers, of the tick in which each did its last step."""
    shop = begun(workers)
    ends = [0 for _ in workers]
    ahead = unfinished(shop)
    while ahead:
        now = shop[1]
        shop, _ = tick(shop)
        for k in ahead:
            if not has_steps(shop, k):
                ends[k] = now
        ahead = unfinished(shop)
    return ends


def waited(workers, k):
    """The ticks, rising, at which a lesser one worked and worker k was not done."""
    shop = begun(workers)
    check_number(shop, k)
    start = shop[0][k][1]
    ticks = []
    while has_steps(shop, k):
        now = shop[1]
        shop, worker = tick(shop)
        if worker is None or now < start:
            continue
        # A k that does its last holds in this very tick doesn't wait in it.
        if own_rank(shop, worker) < own_rank(shop, k) and has_steps(shop, k):
            ticks.append(now)
    return ticks
