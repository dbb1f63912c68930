"""What is asked of facts, looked at moment by moment, and chance facts over small shops."""

import functools
import itertools
import random

from shopbound.facts import Facts
from shopbound.schedules import first_broken
from tests.samples import chance_parts, lists_of, shop_of

SMALL_SEEDS = tuple(seed for seed in range(150) if len(chance_parts(seed)["steps"]) < 4)


def ways_of(parts, step):
    """The ways of a step, a dict."""
    return dict([ways for name, _, ways in parts["steps"] if name == step][0])


def job_of(parts, step):
    """The job of a step, or None."""
    return next((job for job in parts["jobs"] if step in job[4]), None)


def every_place(parts, step):
    """Every place (bench, start) of a step, some beyond the moments of the shop, too."""
    return [(bench, start) for bench in ways_of(parts, step) for start in range(-3, parts["horizon"] + 4)]


def every_schedule(parts):
    """Every schedule of a shop with each step within its moments, on a bench of its ways."""
    steps = [row[0] for row in parts["steps"]]
    places = [
        [(bench, start) for bench, length in ways for start in range(parts["horizon"] - length + 1)]
        for _, _, ways in parts["steps"]
    ]
    for chosen in itertools.product(*places):
        yield dict(zip(steps, chosen))


@functools.lru_cache(maxsize=None)
def kept_schedules(seed):
    """Every schedule that keeps the small shop of a seed."""
    parts = chance_parts(seed)
    shop = shop_of(parts)
    return tuple(schedule for schedule in every_schedule(parts) if first_broken(shop, schedule) is None)


@functools.lru_cache(maxsize=None)
def lively_seeds():
    """Seeds of small shops of several steps that some schedule keeps, but not too many ones."""
    seeds = [seed for seed in range(1000) if len(chance_parts(seed)["steps"]) in (2, 3)]
    return tuple(seed for seed in seeds if 0 < len(kept_schedules(seed)) <= 60)


def slow_possible(parts, facts, step):
    """The possible starts of a step, tuples (bench, start)."""
    found = []
    for bench, start in every_place(parts, step):
        moments = range(start, start + ways_of(parts, step)[bench])
        breaks = dict(parts["benches"])[bench]
        if bench not in facts.open_to(step) or start < facts.first_of(step) or start > facts.last_of(step):
            continue
        if moments[-1] >= facts.end_mark(step):
            continue
        if any(begin <= moment < end for moment in moments for begin, end in breaks):
            continue
        if step in facts.noted() and facts.kept_place(step) == (bench, start):
            continue
        found.append((bench, start))
    return found


def slow_known_gap(parts, one, other):
    """The greatest gap of a known order, or None where there is none."""
    gaps = [gap for first, second, gap in parts["links"] if (first, second) == (one, other)]
    for job in parts["jobs"]:
        if job[3] and one in job[4] and other in job[4] and job[4].index(one) < job[4].index(other):
            gaps.append(0)
    return max(gaps, default=None)


def slow_gap(parts, facts, one, other):
    """The gap from one step to another."""
    gap = slow_known_gap(parts, one, other) or 0
    if len(facts.open_to(one)) == 1 and facts.open_to(one) == facts.open_to(other):
        kinds = {name: kind for name, kind, _ in parts["steps"]}
        asked = (facts.open_to(one)[0], kinds[one], kinds[other])
        gap = max([gap] + [row[3] for row in parts["setups"] if row[:3] == asked])
    return gap


def slow_goes(parts, facts, schedule):
    """Whether a schedule that keeps the shop goes with facts."""
    ends = {step: start + ways_of(parts, step)[bench] for step, (bench, start) in schedule.items()}
    for step, (bench, start) in schedule.items():
        if bench not in facts.open_to(step) or start not in range(facts.first_of(step), facts.last_of(step) + 1):
            return False
        if ends[step] > facts.end_mark(step):
            return False
    for one, other in facts.orders():
        if schedule[other][1] - ends[one] < slow_gap(parts, facts, one, other):
            return False
    if facts.has_kept():
        moved = {step for step in facts.kept_names() if schedule[step] != facts.kept_place(step)}
        return set(facts.noted()) <= moved and len(moved) <= facts.most_moved()
    return True


def state_of(facts):
    """All that facts tell of themselves."""
    return {
        "shop": lists_of(facts.shop()),
        "steps": {
            step: (facts.open_to(step), facts.first_of(step), facts.last_of(step), facts.end_mark(step))
            for step in facts.shop().step_names()
        },
        "orders": facts.orders(),
        "noted": facts.noted(),
        "kept": [(step, facts.kept_place(step)) for step in facts.kept_names()] if facts.has_kept() else None,
        "most": facts.most_moved(),
    }


def chance_places(parts, chance, share):
    """Some of a shop's steps with a place of their ways each."""
    places = {}
    for step, _, ways in parts["steps"]:
        if chance.random() < share:
            bench, length = chance.choice(ways)
            places[step] = (bench, chance.randint(0, max(0, parts["horizon"] - length)))
    return places


def chance_kept(parts, chance):
    """A kept plan of some of a shop's steps, some places of which are none."""
    kept = chance_places(parts, chance, 0.8)
    for step in list(kept):
        if chance.random() < 0.2:
            kept[step] = (chance.choice(["b", "c", "mill", "", "No Bench"]), chance.randint(-2, parts["horizon"] + 2))
    return kept


def first_facts(parts, shop, chance):
    """Facts of a shop as they are at first."""
    limit = chance.choice([parts["horizon"]] * 3 + list(range(parts["horizon"] + 1)))
    holds = chance_places(parts, chance, 0.3) if chance.random() < 0.3 else None
    kept = chance_kept(parts, chance) if chance.random() < 0.6 else None
    now = chance.choice([0, 0, 0, 1, 2, parts["horizon"]])
    return Facts(shop, limit, holds, kept, chance.randint(0, 3), now)


def narrow_by_chance(parts, facts, chance):
    """Changes facts a little, in one of the ways in which they can be changed."""
    steps = [row[0] for row in parts["steps"]]
    step = chance.choice(steps)
    way = chance.randint(0, 4)
    if way == 0:
        facts.set_window(step, facts.first_of(step) + chance.randint(0, 2), facts.last_of(step))
    if way == 1:
        facts.set_window(step, facts.first_of(step), facts.last_of(step) - chance.randint(0, 2))
    if way == 2:
        ready = facts.open_to(step)
        facts.set_open(step, chance.sample(ready, chance.choice([max(0, len(ready) - 1)] * 3 + [len(ready)])))
    if way == 3 and len(steps) > 1:
        facts.put_order(*chance.sample(steps, 2))
    if way == 4 and facts.kept_place(step) is not None:
        facts.put_note(step)


def chance_facts(seed, turn):
    """The parts of a small shop and facts of it, narrowed by chance."""
    parts = chance_parts(seed)
    chance = random.Random(f"{seed} {turn}")
    facts = first_facts(parts, shop_of(parts), chance)
    for _ in range(chance.randint(0, 4)):
        narrow_by_chance(parts, facts, chance)
    return parts, facts
