"""Steps put one by one, each where it ends soonest beside those put before."""


def start_beside(bars, soonest):
    """The least start from the soonest on that lies within no bar (low, high), its ends not counted."""
    start = soonest
    # by their lower ends: a bar passed over begins no sooner than the start, and so do all behind it
    for low, high in sorted(bars):
        if low < start < high:
            start = high
    return start


class Placing:
    """A plan that grows: the places of the steps put so far, and their ends."""

    def __init__(self, facts):
        self.facts = facts
        self.lengths = {}
        self.kinds = {}
        for step, kind, ways in facts.shop().step_rows():
            self.lengths[step] = dict(ways)
            self.kinds[step] = kind
        self.plan = {}
        self.end_moments = {}

    def window_for(self, step, length):
        """The soonest and the latest start of a step by the facts, and by the steps put ahead of it and behind it."""
        facts = self.facts
        soonest = facts.first_of(step)
        latest = min(facts.last_of(step), facts.end_mark(step) - length)
        for other in self.plan:
            if facts.is_ahead(other, step):
                soonest = max(soonest, self.end_moments[other] + facts.gap_of(other, step))
            if facts.is_ahead(step, other):
                latest = min(latest, self.plan[other][1] - length - facts.gap_of(step, other))
        return (soonest, latest)

    def bars_for(self, step, bench, length):
        """Bars within which the step cannot start on a bench: breaks, steps put that it meets, a place it has left."""
        shop = self.facts.shop()
        bars = [(begin - length, end) for begin, end in shop.breaks_of(bench)]
        for other in self.plan:
            start = self.plan[other][1]
            end = self.end_moments[other]
            if self.plan[other][0] == bench:
                ahead = shop.setup_of(bench, self.kinds[step], self.kinds[other])
                behind = shop.setup_of(bench, self.kinds[other], self.kinds[step])
                bars.append((start - length - ahead, end + behind))
            elif self.facts.do_meet(step, other):
                bars.append((start - length, end))
        if step in self.facts.noted() and self.facts.kept_place(step)[0] == bench:
            kept_start = self.facts.kept_place(step)[1]
            bars.append((kept_start - 1, kept_start + 1))
        return bars

    def put_at(self, step, bench, start):
        """Puts a step at a place."""
        self.plan[step] = (bench, start)
        self.end_moments[step] = start + self.lengths[step][bench]

    def put_as_kept(self, step):
        """Puts a step at its kept place, where it has one and may be there beside those put before."""
        kept = self.facts.kept_place(step)
        if kept is None or not self.facts.can_start(step, kept[0], kept[1]):
            return
        length = self.lengths[step][kept[0]]
        window = self.window_for(step, length)
        if window[0] <= kept[1] <= window[1] and start_beside(self.bars_for(step, kept[0], length), kept[1]) == kept[1]:
            self.put_at(step, kept[0], kept[1])

    def put(self, step):
        """Puts a step on that open bench where it ends soonest, the first of several; tells whether it has a place."""
        best = None
        soonest_end = None
        for bench in self.facts.open_to(step):
            length = self.lengths[step][bench]
            window = self.window_for(step, length)
            start = start_beside(self.bars_for(step, bench, length), window[0])
            if start <= window[1] and (best is None or start + length < soonest_end):
                best = (bench, start)
                soonest_end = start + length
        if best is None:
            return False
        self.put_at(step, best[0], best[1])
        return True


def placed_by(facts, row):
    """The plan of a row's steps put in its order, at their kept places first; None where one of them has no place."""
    placing = Placing(facts)
    for step in row:
        placing.put_as_kept(step)
    for step in row:
        if step not in placing.plan and not placing.put(step):
            return None
    return placing.plan
