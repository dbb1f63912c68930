"""Schedules looked at plainly: the first wish that one breaks, its length and its ends.

A schedule is a dict from steps to tuples (bench, start). The wishes are asked kind by kind, so that each kind may
rest on those ahead of it: only behind the ways does every step have an end.
"""

from shopbound.orders import pairs_of


def length_on(shop, step, bench):
    """The length of a step on a bench, or None where the bench is none of its ways'."""
    for way_bench, length in shop.ways_of(step):
        if way_bench == bench:
            return length
    return None


def ends_of(shop, schedule):
    """The ends of the steps, a dict."""
    ends = {}
    for step in shop.step_names():
        place = schedule[step]
        ends[step] = place[1] + length_on(shop, step, place[0])
    return ends


def length_of(shop, schedule):
    """The greatest end."""
    return max(ends_of(shop, schedule).values())


def broken_step(shop, schedule):
    """The first step that is left out, else the least name that is no step's."""
    names = shop.step_names()
    for step in names:
        if step not in schedule:
            return ("step", step)
    strangers = [name for name in schedule if name not in names]
    if len(strangers) > 0:
        return ("step", min(strangers))
    return None


def broken_way(shop, schedule):
    """The first step on a bench that is none of its ways', or outside the moments of the shop."""
    for step in shop.step_names():
        start = schedule[step][1]
        length = length_on(shop, step, schedule[step][0])
        if length is None or start < 0 or start + length > shop.last_moment():
            return ("way", step)
    return None


def broken_job(shop, schedule, ends):
    """The first step that starts ahead of its job's early moment, or ends behind its due one."""
    for step in shop.step_names():
        job = shop.job_of(step)
        if job is not None and (schedule[step][1] < job[1] or ends[step] > job[2]):
            return ("job", step)
    return None


def broken_break(shop, schedule, ends):
    """The first step that is at work in a break of its bench."""
    for step in shop.step_names():
        start = schedule[step][1]
        breaks = shop.breaks_of(schedule[step][0])
        if any([start < until and begin < ends[step] for begin, until in breaks]):
            return ("break", step)
    return None


def are_too_close(shop, schedule, ends, one, other):
    """Whether of two steps on one bench the later one starts before that is made ready for it."""
    earlier = one
    later = other
    if schedule[other][1] < schedule[one][1]:
        earlier = other
        later = one
    setup = shop.setup_of(schedule[one][0], shop.kind_of(earlier), shop.kind_of(later))
    # of two that start at once either one's end lies behind the other's start
    return schedule[later][1] < ends[earlier] + setup


def broken_bench(shop, schedule, ends):
    """The first two steps that stand too close on one bench."""
    for one, other in pairs_of(shop.step_names()):
        if schedule[one][0] == schedule[other][0] and are_too_close(shop, schedule, ends, one, other):
            return ("bench", one, other)
    return None


def broken_apart(shop, schedule, ends):
    """The first two steps of a job that are at work at one moment, or against the job's order."""
    for job in shop.job_rows():
        for one, other in pairs_of(job[4]):
            told_way = schedule[other][1] >= ends[one]
            other_way = schedule[one][1] >= ends[other]
            if not told_way and (job[3] or not other_way):
                return ("apart", one, other)
    return None


def broken_link(shop, schedule, ends):
    """The first link whose other starts too soon behind one's end."""
    for one, other, gap in shop.link_rows():
        if schedule[other][1] < ends[one] + gap:
            return ("link", one, other)
    return None


def level_at(stock, schedule, ends, moment):
    """The level of a stock at a moment, with what is taken and put at the moment itself."""
    taken = sum([amount for step, amount in stock[3] if schedule[step][1] <= moment])
    put = sum([amount for step, amount in stock[4] if ends[step] <= moment])
    return stock[1] - taken + put


def broken_stock(shop, schedule, ends):
    """The first stock whose level leaves its room, and the least moment of that."""
    for stock in shop.stock_rows():
        # between these moments the level stays, and ahead of them all it is the first one, which is good
        moments = [schedule[row[0]][1] for row in stock[3]]
        moments.extend([ends[row[0]] for row in stock[4]])
        for moment in sorted(set(moments)):
            if not 0 <= level_at(stock, schedule, ends, moment) <= stock[2]:
                return ("stock", stock[0], moment)
    return None


def first_broken(shop, schedule):
    """The first wish of the shop that a schedule breaks, or None."""
    broken = broken_step(shop, schedule)
    if broken is None:
        broken = broken_way(shop, schedule)
    if broken is not None:
        return broken
    ends = ends_of(shop, schedule)
    broken = broken_job(shop, schedule, ends)
    if broken is None:
        broken = broken_break(shop, schedule, ends)
    if broken is None:
        broken = broken_bench(shop, schedule, ends)
    if broken is None:
        broken = broken_apart(shop, schedule, ends)
    if broken is None:
        broken = broken_link(shop, schedule, ends)
    if broken is None:
        broken = broken_stock(shop, schedule, ends)
    return broken
