"""A leaf looked for that shuts facts which no row changes any more: each step has a possible start there."""

from shopbound.leaves import greatest_level, least_level, moments_within, shuts_moved


class Span:
    """What the overlaps of a step hang on: its first, its last and its least length."""

    def __init__(self, facts, step):
        self.first = facts.first_of(step)
        self.last = facts.last_of(step)
        self.least = facts.least_of(step)

    def moments_behind(self, l):
        """The moments of the step from l on, where it starts at its first."""
        return max(0, min(self.least, self.first + self.least - l))

    def overlap(self, l, r):
        """The moments of the step from l to below r, at its first or at its last, whichever are fewer."""
        # a longer bench never has a lesser overlap, so the least length alone is asked
        return max(0, min(self.least, r - l, self.first + self.least - l, r - self.last))


class Ends:
    """The moments at which a stretch may begin and end, sorted."""

    def __init__(self, facts):
        horizon = facts.shop().last_moment()
        steps = facts.shop().step_names()
        firsts = [facts.first_of(step) for step in steps]
        ends = [facts.last_of(step) + facts.greatest_of(step) for step in steps]
        self.begins = sorted(set([l for l in firsts if 0 <= l < horizon]))
        self.ends = sorted(set([r for r in ends if 0 < r <= horizon]))


def free_between(many, breaks, l, r):
    """The moments from l to below r of so many benches that lie in no break of theirs."""
    return many * (r - l) - sum([moments_within(begin, end - begin, l, r) for begin, end in breaks])


def full_end(spans, ends, many, breaks, l):
    """An end r for a stretch from l on in which the spans have more moments than are free, or None."""
    near = sorted([(span.last, span.moments_behind(l)) for span in spans if span.moments_behind(l) > 0])
    most = sum([moments for last, moments in near])
    place = 0
    some = 0
    for r in ends:
        # a step that may start from r on has no overlap, and none has more than its moments behind l
        while place < len(near) and near[place][0] < r:
            some = some + near[place][1]
            place = place + 1
        free = free_between(many, breaks, l, r)
        # the free moments grow with r
        if free >= most:
            return None
        if some > free and sum([span.overlap(l, r) for span in spans]) > free:
            return r
    return None


def full_stretch(spans, ends, many, breaks):
    """Ends (l, r) between which the spans overlap more than so many benches with these breaks have free, or None."""
    for l in ends.begins:
        r = full_end(spans, [end for end in ends.ends if end > l], many, breaks, l)
        if r is not None:
            return (l, r)
    return None


def found_stretch(facts, ends, benches):
    """A leaf stretch of these benches that shuts facts, or None."""
    shop = facts.shop()
    spans = []
    for step in shop.step_names():
        if all([bench in benches for bench in facts.open_to(step)]):
            spans.append(Span(facts, step))
    breaks = []
    for bench in benches:
        breaks.extend(shop.breaks_of(bench))
    place = full_stretch(spans, ends, len(benches), breaks)
    return None if place is None else ("stretch", benches, place[0], place[1])


def found_together(facts, ends):
    """A leaf together that shuts facts, or None."""
    for job in facts.shop().job_rows():
        spans = [Span(facts, step) for step in job[4]]
        place = full_stretch(spans, ends, 1, [])
        if place is not None:
            return ("together", job[0], place[0], place[1])
    return None


def found_stock(facts):
    """A leaf stock that shuts facts, or None."""
    horizon = facts.shop().last_moment()
    for stock in facts.shop().stock_rows():
        # the greatest level falls only where a take is sure, the least one rises only where a put is
        for t in sorted(set([facts.last_of(row[0]) for row in stock[3]])):
            if greatest_level(facts, stock, t) < 0:
                return ("stock", stock[0], t, "less")
        for t in sorted(set([facts.last_of(row[0]) + facts.greatest_of(row[0]) for row in stock[4]])):
            if t <= horizon and least_level(facts, stock, t) > stock[2]:
                return ("stock", stock[0], t, "more")
    return None


def found_leaf(facts):
    """A leaf moved, stretch, together or stock that shuts facts, or None."""
    if shuts_moved(facts):
        return ("moved",)
    ends = Ends(facts)
    benches = facts.shop().bench_names()
    for bench in benches:
        leaf = found_stretch(facts, ends, [bench])
        if leaf is not None:
            return leaf
    leaf = found_stretch(facts, ends, benches)
    if leaf is None:
        leaf = found_together(facts, ends)
    if leaf is None:
        leaf = found_stock(facts)
    return leaf
