"""Facts: what is known of all the schedules of a shop that are still looked for."""

from shopbound.grounds import Grounds
from shopbound.schedules import first_broken


def start_behind(breaks, length, start):
    """The least start from this one on by which a step of the length lies in no break."""
    for begin, end in breaks:
        if start < end and begin < start + length:
            start = end
    return start


def start_ahead(breaks, length, start):
    """The greatest start up to this one by which a step of the length lies in no break."""
    for begin, end in reversed(breaks):
        if start < end and begin < start + length:
            start = begin - length
    return start


class Facts:
    """Open benches, firsts, lasts, orders and notes of the steps of a shop, for a limit."""

    def __init__(self, shop, limit, holds=None, kept=None, most=0, now=0):
        self.grounds = Grounds(shop, limit, kept, most)
        self.open_benches = {}
        self.firsts = {}
        self.lasts = {}
        # dicts of True: they keep the order in which their keys came
        self.put_pairs = {}
        self.notes = {}
        for step in shop.step_names():
            early = self.grounds.early_moments[step]
            if holds is not None and step in holds:
                start = holds[step][1]
                self.set_open(step, [holds[step][0]])
                self.set_window(step, max(start, early), start)
            else:
                self.set_open(step, list(self.grounds.lengths[step]))
                self.set_window(step, max(now, early), self.end_mark(step) - self.least_of(step))

    def shop(self):
        """The shop."""
        return self.grounds.told_shop

    def twin(self):
        """Facts by themselves that are alike."""
        return TwinFacts(self)

    def first_of(self, step):
        """No sooner does the step start."""
        return self.firsts[step]

    def last_of(self, step):
        """No later does the step start."""
        return self.lasts[step]

    def end_mark(self, step):
        """The least of the limit, the horizon and the due moment: by then the step has ended."""
        return self.grounds.end_marks[step]

    def open_to(self, step):
        """The open benches of a step, in the order of its ways."""
        return list(self.open_benches[step])

    def orders(self):
        """The orders (one, other) that were put, as they came."""
        return list(self.put_pairs)

    def noted(self):
        """The noted steps, as they came."""
        return list(self.notes)

    def has_kept(self):
        """Whether a kept plan is told; one of no steps is told, too."""
        return self.grounds.kept_plan is not None

    def kept_names(self):
        """The steps of the kept plan, sorted."""
        return sorted(self.grounds.kept_plan) if self.has_kept() else []

    def kept_place(self, step):
        """The tuple (bench, start) of a step in the kept plan, or None."""
        return self.grounds.kept_plan.get(step) if self.has_kept() else None

    def most_moved(self):
        """How many steps of the kept plan may stand otherwise."""
        return self.grounds.kept_most

    def open_lengths(self, step):
        """The lengths of a step on its open benches."""
        lengths = self.grounds.lengths[step]
        return [lengths[bench] for bench in self.open_benches[step]]

    def least_of(self, step):
        """The least length over the open benches, or None."""
        return min(self.open_lengths(step), default=None)

    def greatest_of(self, step):
        """The greatest length over the open benches, or None."""
        return max(self.open_lengths(step), default=None)

    def is_barred(self, step, bench, start):
        """Whether a step is noted and this is its kept place."""
        return step in self.notes and self.kept_place(step) == (bench, start)

    def is_in_window(self, step, bench, start):
        """Whether the bench is open to the step, and it starts and ends there in its time."""
        if bench not in self.open_benches[step] or not self.firsts[step] <= start <= self.lasts[step]:
            return False
        return start + self.grounds.lengths[step][bench] <= self.end_mark(step)

    def can_start(self, step, bench, start):
        """Whether a start is possible for a step on a bench."""
        if not self.is_in_window(step, bench, start) or self.is_barred(step, bench, start):
            return False
        return start_behind(self.grounds.breaks[bench], self.grounds.lengths[step][bench], start) == start

    def may_stay(self, step):
        """Whether the kept bench is open to a step of the kept plan, and its kept start within first and last."""
        place = self.kept_place(step)
        return place[0] in self.open_benches[step] and self.firsts[step] <= place[1] <= self.lasts[step]

    def least_on(self, step, bench):
        """The least start on a bench from the first on, in no break and not barred; perhaps too late."""
        breaks = self.grounds.breaks[bench]
        length = self.grounds.lengths[step][bench]
        start = start_behind(breaks, length, self.firsts[step])
        if self.is_barred(step, bench, start):
            start = start_behind(breaks, length, start + 1)
        return start

    def greatest_on(self, step, bench):
        """The greatest start on a bench up to the last, in no break and not barred; perhaps too soon."""
        breaks = self.grounds.breaks[bench]
        length = self.grounds.lengths[step][bench]
        start = start_ahead(breaks, length, min(self.lasts[step], self.end_mark(step) - length))
        if self.is_barred(step, bench, start):
            start = start_ahead(breaks, length, start - 1)
        return start

    def least_start(self, step):
        """The least possible start over all open benches, or None."""
        starts = [(bench, self.least_on(step, bench)) for bench in self.open_benches[step]]
        return min([start for bench, start in starts if self.is_in_window(step, bench, start)], default=None)

    def greatest_start(self, step):
        """The greatest possible start over all open benches, or None."""
        starts = [(bench, self.greatest_on(step, bench)) for bench in self.open_benches[step]]
        return max([start for bench, start in starts if self.is_in_window(step, bench, start)], default=None)

    def is_ahead(self, one, other):
        """Whether the shop or the facts have it that one step is ahead of another."""
        return (one, other) in self.grounds.known_gaps or (one, other) in self.put_pairs

    def have_one_bench(self, one, other):
        """Whether two steps have just one open bench each, the same."""
        return len(self.open_benches[one]) == 1 and self.open_benches[one] == self.open_benches[other]

    def gap_of(self, one, other):
        """The moments that lie at least between the end of one and the start of other, where one is ahead."""
        gap = self.grounds.known_gaps.get((one, other), 0)
        if not self.have_one_bench(one, other):
            return gap
        shop = self.shop()
        return max(gap, shop.setup_of(self.open_benches[one][0], shop.kind_of(one), shop.kind_of(other)))

    def do_meet(self, one, other):
        """Whether two steps cannot be at work at one moment."""
        if one == other:
            return False
        job = self.grounds.job_names[one]
        return (job is not None and job == self.grounds.job_names[other]) or self.have_one_bench(one, other)

    def keeps_order(self, schedule, one, other):
        """Whether other starts at least the gap behind one's end."""
        end = schedule[one][1] + self.grounds.lengths[one][schedule[one][0]]
        return schedule[other][1] >= end + self.gap_of(one, other)

    def keeps_enough(self, schedule):
        """Whether every noted step is moved, and of the kept plan no more steps than the most."""
        moved = [step for step in self.kept_names() if schedule[step] != self.kept_place(step)]
        if self.has_kept() and len(moved) > self.most_moved():
            return False
        return all([schedule[step] != self.kept_place(step) for step in self.notes])

    def goes(self, schedule):
        """Whether a schedule keeps the shop and all that is known here."""
        for step in self.firsts:
            if step not in schedule or not self.is_in_window(step, schedule[step][0], schedule[step][1]):
                return False
        if not all([self.keeps_order(schedule, one, other) for one, other in self.put_pairs]):
            return False
        return self.keeps_enough(schedule) and first_broken(self.shop(), schedule) is None

    def set_window(self, step, first, last):
        """Gives a step its first and last."""
        self.firsts[step] = first
        self.lasts[step] = last

    def set_open(self, step, benches):
        """Gives a step its open benches."""
        self.open_benches[step] = [bench for bench in self.grounds.lengths[step] if bench in benches]

    def put_order(self, one, other):
        """Puts an order to the others; where it stands there, it stays."""
        self.put_pairs[(one, other)] = True

    def put_note(self, step):
        """Notes a step."""
        self.notes[step] = True


class TwinFacts(Facts):
    """Facts alike to others, made without asking the shop anew."""

    def __init__(self, facts):
        self.grounds = facts.grounds
        # the lists of open benches are never changed, only others put in their stead
        self.open_benches = dict(facts.open_benches)
        self.firsts = dict(facts.firsts)
        self.lasts = dict(facts.lasts)
        self.put_pairs = dict(facts.put_pairs)
        self.notes = dict(facts.notes)
