"""Shops: benches, steps, jobs, setups, links, stocks and a horizon."""

from shopbound.errors import NoShop
from shopbound.shopparts import first_bad_part


def fresh(thing):
    """A thing with every list in it new, at whatever depth: whoever holds a list may change it."""
    if isinstance(thing, list):
        return [fresh(part) for part in thing]
    if isinstance(thing, tuple):
        return tuple([fresh(part) for part in thing])
    return thing


class Shop:
    """A workshop. It never changes: its lists are copied when they come in and when they are told."""

    def __init__(self, benches, steps, jobs, setups, links, stocks, horizon):
        part = first_bad_part(benches, steps, jobs, setups, links, stocks, horizon)
        if part is not None:
            raise NoShop(part)
        self.benches = fresh(benches)
        self.steps = fresh(steps)
        self.jobs = fresh(jobs)
        self.setups = fresh(setups)
        self.links = fresh(links)
        self.stocks = fresh(stocks)
        self.horizon = horizon
        self.bench_by_name = dict([(row[0], row) for row in self.benches])
        self.step_by_name = dict([(row[0], row) for row in self.steps])
        self.setup_by_names = dict([(row[:3], row[3]) for row in self.setups])
        self.job_by_step = {}
        for row in self.jobs:
            for step in row[4]:
                self.job_by_step[step] = row

    def bench_rows(self):
        """The benches, tuples (name, breaks)."""
        return fresh(self.benches)

    def step_rows(self):
        """The steps, tuples (name, kind, ways)."""
        return fresh(self.steps)

    def job_rows(self):
        """The jobs, tuples (name, early, due, ordered, steps)."""
        return fresh(self.jobs)

    def setup_rows(self):
        """The setups, tuples (bench, first, second, moments)."""
        return fresh(self.setups)

    def link_rows(self):
        """The links, tuples (one, other, gap)."""
        return fresh(self.links)

    def stock_rows(self):
        """The stocks, tuples (name, first, room, takes, puts)."""
        return fresh(self.stocks)

    def last_moment(self):
        """The horizon."""
        return self.horizon

    def bench_names(self):
        """The names of the benches, in the shop's order."""
        return [row[0] for row in self.benches]

    def step_names(self):
        """The names of the steps, in the shop's order."""
        return [row[0] for row in self.steps]

    def ways_of(self, step):
        """The ways of a step, tuples (bench, length)."""
        return fresh(self.step_by_name[step][2])

    def kind_of(self, step):
        """The kind of a step."""
        return self.step_by_name[step][1]

    def job_of(self, step):
        """The job that a step is in, or None."""
        return fresh(self.job_by_step.get(step))

    def breaks_of(self, bench):
        """The breaks of a bench, tuples (begin, end)."""
        return fresh(self.bench_by_name[bench][1])

    def setup_of(self, bench, first, second):
        """The moments to make a bench ready between two kinds: 0 where nothing is told."""
        return self.setup_by_names.get((bench, first, second), 0)
