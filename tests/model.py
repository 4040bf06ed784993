"""A slow second program for the same, along the words of the document alone.

It shares no code with the package, so that the two can be compared.
"""


class Worker:
    def __init__(self, rank, start, plan, spot=(0, 0)):
        self.own, self.start, self.plan = rank, start, plan
        self.place, self.gone = spot
        self.tools = []
        for word, tool in plan[:self.place]:
            if word == "hold":
                self.tools.append(tool)
            if word == "free":
                self.tools.remove(tool)

    def step(self):
        return self.plan[self.place] if self.place < len(self.plan) else (None, None)

    def do_step(self):
        word, number = self.step()
        if word == "hold":
            self.tools.append(number)
        self.place, self.gone = self.place + 1, 0
        while self.step()[0] == "free":
            self.tools.remove(self.step()[1])
            self.place += 1

    def rest(self):
        copy = Worker(self.own, self.start, self.plan, (self.place, self.gone))
        ticks = 0
        while copy.tools:
            word, number = copy.step()
            if word == "work" and copy.gone + 1 < number:
                copy.gone, ticks = copy.gone + 1, ticks + 1
            else:
                ticks += word == "work"
                copy.do_step()
        return ticks


class Shop:
    def __init__(self, shop):
        workers, self.now, spots = shop
        self.all = [Worker(*worker, spot) for worker, spot in zip(workers, spots)]

    def spots(self):
        return [(worker.place, worker.gone) for worker in self.all]

    def there(self):
        return [worker for worker in self.all if worker.start <= self.now and worker.step()[0]]

    def waits(self, worker):
        word, tool = worker.step()
        if worker in self.there() and word == "hold":
            for other in self.all:
                if other is not worker and tool in other.tools:
                    return other
        return None

    def ranks(self):
        """Each worker's rank: whoever waits lends, until nothing grows any more."""
        ranks = [worker.own for worker in self.all]
        for _ in self.all:
            for k, worker in enumerate(self.all):
                ahead = self.waits(worker)
                if ahead is not None:
                    at = self.all.index(ahead)
                    ranks[at] = max(ranks[at], ranks[k])
        return ranks

    def chosen(self):
        free = [worker for worker in self.there() if self.waits(worker) is None]
        ranks = self.ranks()
        return max(free, key=lambda worker: ranks[self.all.index(worker)], default=None)

    def tick(self):
        """Does a tick; who worked, by number, or None."""
        worker = self.chosen()
        while worker is not None and worker.step()[0] == "hold":
            worker.do_step()
            worker = self.chosen()
        self.now += 1
        if worker is None:
            return None
        worker.gone += 1
        if worker.gone == worker.step()[1]:
            worker.do_step()
        return self.all.index(worker)


def whole_run(workers):
    """Who worked, by tick, till every plan is done and for a tick more; then the spots, by now."""
    shop = Shop((workers, 0, [(0, 0)] * len(workers)))
    worked, spots = [], [shop.spots()]
    while len(spots) < 2 or any(worker.step()[0] for worker in shop.all) or worked[-1] is not None:
        worked.append(shop.tick())
        spots.append(shop.spots())
    return worked, spots
