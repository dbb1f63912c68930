"""The pusher: rows and nots that narrow facts as far as they go, and a leaf where one shuts them."""

from shopbound.choices import side_of
from shopbound.leaffinder import found_leaf
from shopbound.orders import pairs_of
from shopbound.rows import behind_row

MOST_ROWS = 600


class Push:
    """Facts on their way: those reached, the rows and nots that led there, and the leaf that shuts them, or None."""

    def __init__(self, facts):
        self.names = facts.shop().step_names()
        self.reached = facts
        self.rows = []
        self.leaf = None

    def is_over(self):
        """Whether a leaf is found, or no more rows may be told."""
        return self.leaf is not None or len(self.rows) >= MOST_ROWS

    def go_behind(self, row):
        """Goes on by a row."""
        if not self.is_over():
            self.rows.append(row)
            self.reached = behind_row(self.reached, row)

    def leave_out(self, one, other):
        """Goes on by a not: one cannot be ahead of other, so other is ahead of one."""
        if not self.is_over():
            choice = ("order", one, other)
            self.rows.append(("not", choice, 0, ([("low", one, other)], ("window", other))))
            self.reached = side_of(self.reached, choice, 1)

    def go_fit(self, step):
        """Goes on by a row fit, where it changes anything; or finds the leaf window."""
        least = self.reached.least_start(step)
        if least is None:
            self.leaf = ("window", step)
        elif least != self.reached.first_of(step) or self.reached.greatest_start(step) != self.reached.last_of(step):
            self.go_behind(("fit", step))


class Line:
    """Which steps are ahead of which, and all of them in a row by that, as far as there is no ring."""

    def __init__(self, facts, names):
        self.before = {}
        self.behind = {}
        for step in names:
            self.before[step] = [one for one in names if facts.is_ahead(one, step)]
            self.behind[step] = [other for other in names if facts.is_ahead(step, other)]
        self.placed = {}
        ready = [step for step in names if self.before[step] == []]
        while len(ready) > 0:
            step = ready.pop()
            self.placed[step] = True
            for other in self.behind[step]:
                if all([one in self.placed for one in self.before[other]]):
                    ready.append(other)
        self.left = [step for step in names if step not in self.placed]

    def ring(self):
        """Steps of which each is ahead of the next one, the last one of the first; only where some have no place."""
        trail = []
        step = self.left[0]
        # a step without a place has one ahead of it that has none either
        while step not in trail:
            trail.append(step)
            step = [one for one in self.before[step] if one not in self.placed][0]
        return list(reversed(trail[trail.index(step):]))


def push_first(push, step, before):
    """Goes on by the row low that changes a step's first the most, if any does."""
    facts = push.reached
    soonest = facts.first_of(step)
    ahead = None
    for one in before:
        moment = facts.first_of(one) + facts.least_of(one) + facts.gap_of(one, step)
        if moment > soonest:
            soonest = moment
            ahead = one
    if ahead is not None:
        push.go_behind(("low", ahead, step))


def push_last(push, step, behind):
    """Goes on by the row high that changes a step's last the most, if any does."""
    facts = push.reached
    latest = facts.last_of(step)
    later = None
    for other in behind:
        moment = facts.last_of(other) - facts.least_of(step) - facts.gap_of(step, other)
        if moment < latest:
            latest = moment
            later = other
    if later is not None:
        push.go_behind(("high", step, later))


def push_windows(push):
    """Goes on until no row low, high or fit changes anything, or a leaf window or ring is found."""
    line = Line(push.reached, push.names)
    if len(line.left) > 0:
        push.leaf = ("ring", line.ring())
    # each step behind those ahead of it, so that its first changes once; then back, for the lasts
    for step in list(line.placed):
        if not push.is_over():
            push_first(push, step, line.before[step])
            push.go_fit(step)
    for step in reversed(list(line.placed)):
        if not push.is_over():
            push_last(push, step, line.behind[step])
            push.go_fit(step)


def is_too_late(facts, one, other):
    """Whether other has no possible start behind one, where first and last are possible starts of each."""
    return facts.first_of(one) + facts.least_of(one) + facts.gap_of(one, other) > facts.last_of(other)


def push_orders(push):
    """Goes on by nots of the orders, for steps that meet, by which one has no possible start."""
    facts = push.reached
    for one, other in pairs_of(push.names):
        if facts.do_meet(one, other) and not facts.is_ahead(one, other) and not facts.is_ahead(other, one):
            if is_too_late(facts, one, other):
                push.leave_out(one, other)
            elif is_too_late(facts, other, one):
                push.leave_out(other, one)


def push_of(facts):
    """Facts pushed: those reached, the rows and nots that led there, and a leaf that shuts them, or None."""
    push = Push(facts)
    told = -1
    while len(push.rows) > told and not push.is_over():
        push_windows(push)
        told = len(push.rows)
        if not push.is_over():
            push_orders(push)
    if not push.is_over():
        push.leaf = found_leaf(push.reached)
    return push


def pushed_on(facts):
    """A tuple (rows, leaf): rows and nots that lead on from facts, and a leaf that shuts those reached, or None."""
    push = push_of(facts)
    return (push.rows, push.leaf)
