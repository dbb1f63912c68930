"""What stays as it is in all facts of one shop, one limit and one kept plan."""

from shopbound.orders import known_orders


class Grounds:
    """Asked of the shop once, as facts are made anew behind every row; nothing here ever changes."""

    def __init__(self, shop, limit, kept, most):
        self.told_shop = shop
        self.kept_plan = None if kept is None else dict(kept)
        self.kept_most = most
        self.lengths = {}
        self.job_names = {}
        self.early_moments = {}
        self.end_marks = {}
        for step in shop.step_names():
            self.lengths[step] = dict(shop.ways_of(step))
            job = shop.job_of(step)
            self.job_names[step] = None if job is None else job[0]
            self.early_moments[step] = 0 if job is None else job[1]
            due = shop.last_moment() if job is None else job[2]
            self.end_marks[step] = min(limit, shop.last_moment(), due)
        self.breaks = dict(shop.bench_rows())
        self.known_gaps = dict([((one, other), gap) for one, other, gap in known_orders(shop)])
