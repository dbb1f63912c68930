"""The bound of a shop: a best schedule with a tree that shuts all shorter ones, or how near to that it comes."""

from shopbound.brackets import Bracket, draw_near
from shopbound.builders import RULES, built_by, is_better, least_length, row_by
from shopbound.facts import Facts
from shopbound.schedules import length_of
from shopbound.search import searched


def best_by_rules(shop):
    """The shortest schedule that one of the rules' rows builds, or None."""
    best = None
    for rule in RULES:
        row = row_by(shop, rule)
        schedule = None if row is None else built_by(shop, row)
        if is_better(shop, schedule, best):
            best = schedule
    return best


def soonest_end(shop, step):
    """The early moment of a step's job and its least length together: it never ends before."""
    job = shop.job_of(step)
    return least_length(shop, step) + (0 if job is None else job[1])


def first_bracket(shop):
    """What is known of the shop's lengths by one step and by the rules' rows."""
    slowest = max(shop.step_names(), key=lambda step: soonest_end(shop, step))
    tree = ([], ("window", slowest))
    schedule = best_by_rules(shop)
    top = shop.last_moment() + 1 if schedule is None else length_of(shop, schedule)
    return Bracket(soonest_end(shop, slowest), tree, top, schedule)


def narrow_lengths(shop, bracket, below, most):
    """Narrows a bracket of lengths, from those below one, by at most so many boths in each tree."""
    draw_near(
        bracket,
        below,
        lambda limit: searched(Facts(shop, limit), most),
        lambda schedule: length_of(shop, schedule),
    )


def bound_of(shop, most):
    """A tuple: best, a schedule, a tree; none, a tree; or open, a schedule or None, the low, its tree."""
    bracket = first_bracket(shop)
    horizon = shop.last_moment()
    below = bracket.top
    if bracket.schedule is None:
        told = searched(Facts(shop, horizon), most)
        if told[0] == "shut":
            return ("none", told[1])
        below = horizon
        if told[0] == "found":
            bracket.schedule = told[1]
            bracket.top = length_of(shop, told[1])
            below = bracket.top
    # what is told without a both is told soon, and leaves less for the trees with many
    for boths in sorted(set([0, most])):
        narrow_lengths(shop, bracket, min(below, bracket.top), boths)
    if bracket.is_closed():
        return ("best", bracket.schedule, bracket.tree)
    return ("open", bracket.schedule, bracket.low, bracket.tree)
