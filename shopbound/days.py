"""Changes by day: what was begun stays, and the rest is planned anew with the fewest steps moved."""

from shopbound.brackets import Bracket, draw_near
from shopbound.errors import Gone
from shopbound.facts import Facts
from shopbound.schedules import ends_of, first_broken, length_on
from shopbound.search import searched


def begun_of(shop, plan, now):
    """The steps of a plan that start ahead of now, in the shop's order; Gone where one of them cannot stay."""
    names = shop.step_names()
    begun = [name for name in plan if plan[name][1] < now]
    strangers = [name for name in begun if name not in names]
    if len(strangers) > 0:
        raise Gone(min(strangers))
    told = [step for step in names if step in begun]
    for step in told:
        if plan[step][1] < 0 or length_on(shop, step, plan[step][0]) is None:
            raise Gone(step)
    return told


def left_of(shop, plan, begun):
    """The steps of a plan that have not begun, in the shop's order."""
    return [step for step in shop.step_names() if step in plan and step not in begun]


def serves_day(shop, plan, now, limit, schedule):
    """Whether a schedule keeps the shop, holds what was begun, and ends by the limit; Gone as begun_of."""
    begun = begun_of(shop, plan, now)
    if first_broken(shop, schedule) is not None:
        return False
    if any([schedule[step] != plan[step] for step in begun]):
        return False
    later = [step for step in shop.step_names() if step not in begun]
    if any([schedule[step][1] < now for step in later]):
        return False
    return max(ends_of(shop, schedule).values()) <= limit


def moved_of(shop, plan, now, schedule):
    """The steps of a plan, not begun, that stand otherwise in a schedule, in the shop's order; Gone as begun_of."""
    begun = begun_of(shop, plan, now)
    return [step for step in left_of(shop, plan, begun) if schedule[step] != plan[step]]


class Day:
    """A shop, a plan kept so far, now and a limit, with what was begun and what may be moved."""

    def __init__(self, shop, plan, now, limit):
        begun = begun_of(shop, plan, now)
        self.workshop = shop
        self.now = now
        self.limit = limit
        self.holds = dict([(step, plan[step]) for step in begun])
        self.kept = dict([(step, plan[step]) for step in left_of(shop, plan, begun)])

    def facts_alone(self):
        """The facts of the day without a kept plan."""
        return Facts(self.workshop, self.limit, self.holds, None, 0, self.now)

    def facts_moving(self, most):
        """The facts of the day where at most so many steps are moved."""
        return Facts(self.workshop, self.limit, self.holds, self.kept, most, self.now)

    def many_moved(self, schedule):
        """How many steps of the plan stand otherwise in a schedule."""
        return len([step for step in self.kept if schedule[step] != self.kept[step]])


def first_bracket_of(day, schedule):
    """What is known of how many steps are moved where a schedule serves the day, or None is known to."""
    if schedule is None:
        return Bracket(0, None, len(day.kept) + 1, None)
    return Bracket(0, None, day.many_moved(schedule), schedule)


def narrow_moved(day, bracket, below, most):
    """Narrows a bracket of how many are moved, from those below one, by at most so many boths in each tree."""
    draw_near(
        bracket,
        below,
        lambda k: searched(day.facts_moving(k), most),
        lambda schedule: day.many_moved(schedule),
    )


def planned_anew(shop, plan, now, limit, most):
    """A tuple: least, a schedule, its moved steps, a tree; none, a tree; or open, a schedule or None, low, a tree."""
    day = Day(shop, plan, now, limit)
    told = searched(day.facts_alone(), most)
    if told[0] == "shut":
        return ("none", told[1])
    bracket = first_bracket_of(day, told[1])
    # where all may be moved, nothing is told beyond what was told without a plan
    for boths in sorted(set([0, most])):
        narrow_moved(day, bracket, min(bracket.top, len(day.kept)), boths)
    if bracket.is_closed():
        return ("least", bracket.schedule, moved_of(shop, plan, now, bracket.schedule), bracket.tree)
    return ("open", bracket.schedule, bracket.low, bracket.tree)
