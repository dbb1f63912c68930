"""A likely plan of pushed facts, and, where it does not go with them, a choice that parts what stands against it.

Facts are pushed when no row changes them any more and no leaf of the pusher shuts them: each step's first is a
possible start then, and no two steps whose order is known stand too close at their firsts on their one open benches.
"""

from shopbound.leaves import row_called
from shopbound.schedules import first_broken, length_on, level_at


def is_undecided(facts, step):
    """Whether a step may be at its kept place, and elsewhere, too."""
    if facts.kept_place(step) is None or step in facts.noted() or not facts.may_stay(step):
        return False
    return len(facts.open_to(step)) > 1 or facts.first_of(step) < facts.last_of(step)


def likely_place(facts, step):
    """The kept place where the step may be there, else its first, on the bench where it ends soonest."""
    kept = facts.kept_place(step)
    if kept is not None and facts.can_start(step, kept[0], kept[1]):
        return kept
    first = facts.first_of(step)
    benches = [bench for bench in facts.open_to(step) if facts.can_start(step, bench, first)]
    return (min(benches, key=lambda bench: length_on(facts.shop(), step, bench)), first)


def likely_plan(facts):
    """A plan with each step at its likely place."""
    return dict([(step, likely_place(facts, step)) for step in facts.shop().step_names()])


def broken_wish(facts, plan):
    """The first order of the facts or wish of the shop that a plan breaks, a tuple, or None."""
    for one, other in facts.orders():
        if not facts.keeps_order(plan, one, other):
            return ("order", one, other)
    return first_broken(facts.shop(), plan)


def choice_of_benches(facts, plan, steps):
    """A choice of the kept place or the bench of one of the steps, or None where all of these are known."""
    for step in steps:
        if is_undecided(facts, step):
            return ("keep", step)
    for step in steps:
        if len(facts.open_to(step)) > 1:
            return ("on", step, plan[step][0])
    return None


def choice_of_pair(facts, plan, one, other):
    """A choice for two steps that stand too close in a plan."""
    known = facts.is_ahead(one, other) or facts.is_ahead(other, one)
    undecided = is_undecided(facts, one) or is_undecided(facts, other)
    if known or undecided or not facts.do_meet(one, other):
        return choice_of_benches(facts, plan, [one, other])
    if facts.first_of(other) < facts.first_of(one):
        return ("order", other, one)
    return ("order", one, other)


def choice_of_lack(facts, takes, puts, t):
    """A take is delayed to the next put, or is not, where a stock is below 0 at t in the likely plan."""
    put_ends = [facts.first_of(step) + facts.least_of(step) for step, amount in puts]
    soonest = min([end for end in put_ends if end > t])
    steps = [step for step, amount in takes if facts.first_of(step) <= t and facts.last_of(step) >= soonest]
    return ("start", max(steps, key=facts.first_of), soonest)


def choice_of_flood(facts, takes, puts, t):
    """A put is delayed to the next take, or is not, where a stock is above its room at t in the likely plan."""
    soonest = min([facts.first_of(step) for step, amount in takes if facts.first_of(step) > t])
    ended = [step for step, amount in puts if facts.first_of(step) + facts.least_of(step) <= t]
    steps = [step for step in ended if facts.last_of(step) + facts.least_of(step) >= soonest]
    best = max(steps, key=facts.first_of)
    return ("start", best, soonest - facts.least_of(best))


def choice_of_stock(facts, plan, name, t):
    """A choice for a stock that leaves its room at t in a plan."""
    stock = row_called(facts.shop().stock_rows(), name)
    takes = stock[3]
    puts = stock[4]
    choice = choice_of_benches(facts, plan, [row[0] for row in takes + puts])
    if choice is not None:
        return choice
    ends = dict([(step, facts.first_of(step) + facts.least_of(step)) for step, amount in puts])
    if level_at(stock, plan, ends, t) < 0:
        return choice_of_lack(facts, takes, puts, t)
    return choice_of_flood(facts, takes, puts, t)


def choice_of_moved(facts, plan):
    """A choice for a step that is moved in a plan, where too many are."""
    moved = [step for step in facts.kept_names() if plan[step] != facts.kept_place(step)]
    return ("keep", [step for step in moved if is_undecided(facts, step)][0])


def choice_for(facts, plan):
    """A choice for what stands against the likely plan of pushed facts; None where it goes with them."""
    broken = broken_wish(facts, plan)
    if broken is None:
        return None if facts.keeps_enough(plan) else choice_of_moved(facts, plan)
    if broken[0] == "stock":
        return choice_of_stock(facts, plan, broken[1], broken[2])
    return choice_of_pair(facts, plan, broken[1], broken[2])
