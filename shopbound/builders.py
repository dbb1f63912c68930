"""Schedules built by rows of steps, rows by rules, and rows made better by exchanges."""

from shopbound.facts import Facts
from shopbound.orders import known_orders, pairs_of
from shopbound.placing import placed_by
from shopbound.schedules import first_broken, length_of

RULES = ("told", "long", "due", "slack")


def built_by(shop, row):
    """The schedule built by a row of all steps, or None."""
    plan = placed_by(Facts(shop, shop.last_moment()), row)
    # the stocks are not asked while the steps are put
    if plan is None or first_broken(shop, plan) is not None:
        return None
    return plan


def least_length(shop, step):
    """The least length of a step's ways."""
    return min([length for bench, length in shop.ways_of(step)])


def due_moment(shop, step):
    """The due moment of a step's job, or the horizon."""
    job = shop.job_of(step)
    return shop.last_moment() if job is None else job[2]


def rank_by(shop, rule, step):
    """A number for a step, the less the better by the rule."""
    if rule == "long":
        return -least_length(shop, step)
    if rule == "due":
        return due_moment(shop, step)
    if rule == "slack":
        return due_moment(shop, step) - least_length(shop, step)
    return 0


def row_by(shop, rule):
    """The row of all steps by a rule told, long, due or slack; None where the known orders go round."""
    orders = known_orders(shop)
    left = shop.step_names()
    ranks = dict([(step, rank_by(shop, rule, step)) for step in left])
    row = []
    while len(left) > 0:
        waiting = [other for one, other, gap in orders if one in left]
        free = [step for step in left if step not in waiting]
        if len(free) == 0:
            return None
        # of several as good min tells the first, and those left stand as in the shop
        best = min(free, key=lambda step: ranks[step])
        row.append(best)
        left.remove(best)
    return row


def exchanged(row, one, other):
    """A row with the steps at two places exchanged."""
    new = list(row)
    new[one] = row[other]
    new[other] = row[one]
    return new


def is_better(shop, schedule, elder):
    """Whether a schedule is there, and is shorter than the elder one, or that is not."""
    if schedule is None:
        return False
    return elder is None or length_of(shop, schedule) < length_of(shop, elder)


def made_better(shop, row, tries):
    """A tuple (row, schedule) that comes of a row by exchanges of two steps, tried at most so many times."""
    best_row = list(row)
    best = built_by(shop, best_row)
    pairs = pairs_of(list(range(len(best_row))))
    made = 0
    place = 0
    while place < len(pairs) and made < tries:
        new_row = exchanged(best_row, pairs[place][0], pairs[place][1])
        schedule = built_by(shop, new_row)
        made = made + 1
        place = place + 1
        if is_better(shop, schedule, best):
            best_row = new_row
            best = schedule
            place = 0
    return (best_row, best)
