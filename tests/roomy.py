"""Shops of chance with some room in them, and facts of these, only little narrowed."""

import random

from shopbound.choices import side_of
from shopbound.facts import Facts
from shopbound.schedules import first_broken
from tests.samples import names, shop_of, small_shop
from tests.slow import every_schedule
from tests.test_choices import choices_of

STEPS = ("one", "two", "three", "four", "five", "six")


def roomy_parts(seed, most_steps=4, most_ways=2, horizon=None, stocks=True):
    """Parts of a shop with some room, the same for the same seed."""
    chance = random.Random(f"roomy {seed}")
    horizon = horizon or chance.randint(5, 12)
    benches = ["b", "c", "d"][: chance.randint(1, 3)]
    steps = list(STEPS[: chance.randint(2, most_steps)])
    chance.shuffle(steps)
    longest = max(1, min(4, horizon // 2))

    def breaks():
        if chance.random() < 0.6:
            return []
        begin = chance.randint(0, horizon - 1)
        return [(begin, min(horizon, begin + chance.randint(1, 2)))]

    def ways():
        ready = chance.sample(benches, min(len(benches), chance.randint(1, most_ways)))
        return [(bench, chance.randint(1, longest)) for bench in ready]

    jobs = []
    cut = chance.randint(0, len(steps))
    for name, members in (("j", steps[:cut]), ("i", steps[cut:])):
        if members and chance.random() < 0.5:
            due = horizon - chance.choice([0, 0, 1])
            jobs.append((name, chance.choice([0, 0, 1]), due, chance.random() < 0.4, members))
    links = []
    for place, one in enumerate(STEPS):
        for other in STEPS[place + 1:]:
            if one in steps and other in steps and chance.random() < 0.15:
                links.append((one, other, min(horizon, chance.randint(0, 2))))
    kinds = ["k", "l"]
    setups = [
        (bench, first, second, min(horizon, chance.randint(1, 2)))
        for bench in benches for first in kinds for second in kinds if chance.random() < 0.2
    ]
    told_stocks = []
    for name in ("s", "t"):
        if stocks and chance.random() < 0.3:
            room = chance.randint(1, 3)
            takes = [(step, 1) for step in steps if chance.random() < 0.4]
            puts = [(step, 1) for step in steps if chance.random() < 0.4]
            told_stocks.append((name, chance.randint(0, room), room, takes, puts))
    return {
        "horizon": horizon,
        "benches": [(bench, breaks()) for bench in benches],
        "steps": [(step, chance.choice(kinds), ways()) for step in chance.sample(steps, len(steps))],
        "jobs": jobs,
        "setups": setups,
        "links": links,
        "stocks": told_stocks,
    }


def roomy_facts(seed, **bounds):
    """Parts of a shop, and facts of it with little narrowed: perhaps held steps, a kept plan, now, sides taken."""
    parts = roomy_parts(seed, **bounds)
    chance = random.Random(f"facts {seed}")
    places = {}
    for step, _, ways in parts["steps"]:
        bench, length = chance.choice(ways)
        places[step] = (bench, chance.randint(0, max(0, parts["horizon"] - length)))
    holds = dict([chance.choice(list(places.items()))]) if chance.random() < 0.2 else None
    kept = {step: place for step, place in places.items() if chance.random() < 0.7} if chance.random() < 0.4 else None
    limit = parts["horizon"] - chance.choice([0, 0, 0, 1, 2])
    facts = Facts(shop_of(parts), limit, holds, kept, chance.randint(0, 3), chance.choice([0, 0, 0, 1]))
    for _ in range(chance.choice([0, 0, 1, 2])):
        choice = chance.choice(choices_of(parts))
        facts = side_of(facts, choice, chance.randint(0, 1)) or facts
    return parts, facts


def all_schedules(parts):
    """Every schedule that keeps a shop."""
    shop = shop_of(parts)
    return [schedule for schedule in every_schedule(parts) if first_broken(shop, schedule) is None]


def setup_shop(many, seed):
    """Steps on one bench that is made ready between each two of them: the more, the more boths are wanted."""
    chance = random.Random(seed)
    kinds = ["k" + name for name in names(many)]
    steps = [(name, kind, [("b", chance.randint(1, 4))]) for name, kind in zip(names(many), kinds)]
    setups = [("b", first, second, chance.randint(1, 6)) for first in kinds for second in kinds if first != second]
    return small_shop(horizon=100, steps=steps, setups=setups)


def crossing_shop(many, benches, seed):
    """Jobs in any order of one step on each bench: there are many orders to be chosen, few of which tell much."""
    chance = random.Random(seed)
    places = [(job, bench) for job in names(many) for bench in names(benches)]
    steps = [("s" + job[-1] + bench[-1], "k", [(bench, chance.randint(1, 9))]) for job, bench in places]
    jobs = [(job, 0, 200, False, [row[0] for row in steps if row[0][1] == job[-1]]) for job in names(many)]
    return small_shop(horizon=200, benches=[(bench, []) for bench in names(benches)], steps=steps, jobs=jobs)


def trees_within(tree):
    """A tree and all trees within it."""
    found = [tree]
    for row in tree[0]:
        if row[0] == "not":
            found.extend(trees_within(row[3]))
    if tree[1][0] == "both":
        found.extend(trees_within(tree[1][2]) + trees_within(tree[1][3]))
    return found


def boths_in(tree):
    """How many boths a tree has."""
    return len([inner for inner in trees_within(tree) if inner[1][0] == "both"])


def lists_within(thing):
    """Every list and dict within a thing."""
    found = [thing] if isinstance(thing, (list, dict)) else []
    if isinstance(thing, (list, tuple)):
        for part in thing:
            found.extend(lists_within(part))
    return found
