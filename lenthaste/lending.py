"""Lending: who waits for whom, and what rank that lends."""

from lenthaste.shops import check_number, held, is_there, own_rank, step_of


def waits(shop, k):
    """The worker that holds the tool which worker k wants now, or None."""
    check_number(shop, k)
    if not is_there(shop, k):
        return None
    word, tool = step_of(shop, k)
    if word != "hold":
        return None
    return held(shop).get(tool)


def chain(shop, k):
    """The list of k, the one for whom k waits, and so on to one that doesn't wait."""
    workers = [k]
    # This ends: the tool that is waited for is a greater one at each link.
    ahead = waits(shop, k)
    while ahead is not None:
        workers.append(ahead)
        ahead = waits(shop, ahead)
    return workers


def lenders(shop, k):
    """The other workers in whose chain worker k stands, rising."""
    check_number(shop, k)
    others = [other for other in range(len(shop[0])) if other != k]
    return [other for other in others if k in chain(shop, other)]


def rank_of(shop, k):
    """Worker k's rank, own or lent."""
    return max([own_rank(shop, one) for one in [k] + lenders(shop, k)])
