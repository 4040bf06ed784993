"""Ticking: who is chosen, what a tick does, and how long tools stay held."""

from lenthaste.lending import chain
from lenthaste.plans import held_after
from lenthaste.shops import check_number, copied, own_rank, place_of, plan_of, step_of, there


def chosen(shop):
    """The worker that is there, doesn't wait and has the greatest rank, or None."""
    ranks = [(own_rank(shop, k), k) for k in there(shop)]
    if not ranks:
        return None
    _, greatest = max(ranks)
    # The greatest own rank is lent along the chain of the worker that has it.
    # So the last one there has that rank, and no other one that doesn't wait.
    return chain(shop, greatest)[-1]


def place_behind(plan, place):
    """The place behind the step at this one, when that step is done."""
    place += 1
    # Frees are done at once, so no worker stands at one.
    while place < len(plan) and plan[place][0] == "free":
        place += 1
    return place


def do_step(shop, k):
    """Does the step at worker k's place, in the list of spots itself."""
    shop[2][k] = (place_behind(plan_of(shop, k), place_of(shop, k)), 0)


def do_holds(shop):
    """Does the holds at the chosen one's place; tells who is chosen behind them."""
    k = chosen(shop)
    while k is not None and step_of(shop, k)[0] == "hold":
        do_step(shop, k)
        # A hold may let a greater one wait for another worker now.
        k = chosen(shop)
    return k


def do_work(shop, k):
    """Does one tick of the work at worker k's place, in the list of spots itself."""
    _, ticks = step_of(shop, k)
    place, gone = shop[2][k]
    if gone + 1 == ticks:
        do_step(shop, k)
    else:
        shop[2][k] = (place, gone + 1)


def tick(shop):
    """The shop behind one tick, and the worker that worked, or None."""
    workers, now, spots = copied(shop[0]), shop[1], list(shop[2])
    own = (workers, now, spots)
    k = do_holds(own)
    if k is not None:
        do_work(own, k)
    return (workers, now + 1, spots), k


def rest_of(shop, k):
    """How many ticks of work are ahead of worker k till it holds nothing."""
    check_number(shop, k)
    plan = plan_of(shop, k)
    place, gone = shop[2][k]
    if not held_after(plan[:place]):
        return 0
    rest = -gone
    while held_after(plan[:place]):
        word, number = plan[place]
        if word == "work":
            rest += number
        place += 1
    return rest
