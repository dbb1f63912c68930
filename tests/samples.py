"""Shops and schedules that the tests start from."""

import copy
import random

from shopbound.errors import NoShop
from shopbound.shops import Shop

PARTS = ("horizon", "benches", "steps", "jobs", "setups", "links", "stocks")


def good_parts():
    """The parts of a shop that has something of every kind."""
    return {
        "horizon": 100,
        "benches": [("saw", [(10, 20), (30, 40)]), ("oven", []), ("rack", [(0, 1)])],
        "steps": [
            ("cut", "wood", [("saw", 5)]),
            ("bake", "clay", [("oven", 7), ("saw", 9)]),
            ("glue", "wood", [("saw", 3)]),
            ("saw", "air", [("rack", 100)]),
        ],
        "jobs": [("chair", 2, 90, True, ["cut", "glue"]), ("saw", 100, 0, False, ["bake"])],
        "setups": [("saw", "wood", "clay", 4), ("saw", "clay", "wood", 6), ("oven", "wood", "wood", 100)],
        "links": [("cut", "bake", 0), ("bake", "cut", 5), ("saw", "glue", 100)],
        "stocks": [
            ("boards", 3, 10, [("cut", 2), ("glue", 1)], [("glue", 1)]),
            ("heat", 0, 0, [], []),
            ("saw", 10 ** 6, 10 ** 6, [], [("saw", 10 ** 6)]),
        ],
    }


def shop_of(parts):
    """The shop made of a dict of parts."""
    return Shop(
        parts["benches"],
        parts["steps"],
        parts["jobs"],
        parts["setups"],
        parts["links"],
        parts["stocks"],
        parts["horizon"],
    )


def changed(**parts):
    """Good parts, some of them changed."""
    new = good_parts()
    new.update(parts)
    return new


def refused_part(parts):
    """The part by which these parts make no shop, or None where they make one."""
    try:
        shop_of(parts)
    except NoShop as error:
        return error.part
    return None


def lists_of(shop):
    """All that a shop was made of, as it tells it."""
    return {
        "horizon": shop.last_moment(),
        "benches": shop.bench_rows(),
        "steps": shop.step_rows(),
        "jobs": shop.job_rows(),
        "setups": shop.setup_rows(),
        "links": shop.link_rows(),
        "stocks": shop.stock_rows(),
    }


def names(many):
    """So many unlike names."""
    return ["n" + chr(ord("a") + k // 26) + chr(ord("a") + k % 26) for k in range(many)]


def small_shop(**parts):
    """A shop with the parts told and little else."""
    new = {
        "horizon": 20,
        "benches": [("b", []), ("c", [])],
        "steps": [("one", "k", [("b", 3)])],
        "jobs": [],
        "setups": [],
        "links": [],
        "stocks": [],
    }
    new.update(parts)
    return shop_of(new)


def spoil_lists(thing):
    """Changes every list and dict within a thing, at whatever depth."""
    if isinstance(thing, (list, tuple)):
        for part in thing:
            spoil_lists(part)
    if isinstance(thing, dict):
        for part in list(thing.values()):
            spoil_lists(part)
        thing["spoilt"] = ("b", 0)
    if isinstance(thing, list):
        thing.reverse()
        thing.append("spoilt")


def chance_parts(seed):
    """Parts of a small shop, the same for the same seed."""
    chance = random.Random(seed)
    horizon = chance.randint(3, 8)
    benches = ["b", "c"][: chance.randint(1, 2)]
    steps = ["one", "two", "three", "four"][: chance.randint(1, 4)]
    chance.shuffle(steps)
    kinds = ["k", "l"]

    def breaks():
        begin = chance.randint(0, horizon - 1)
        return [(begin, chance.randint(begin + 1, horizon))] if chance.random() < 0.4 else []

    def ways():
        ready = chance.sample(benches, chance.randint(1, len(benches)))
        return [(bench, chance.randint(1, 3)) for bench in ready]

    def amounts():
        return [(step, chance.randint(1, 2)) for step in steps if chance.random() < 0.4]

    shuffled = chance.sample(steps, len(steps))
    cut = chance.randint(0, len(steps))
    jobs = []
    for name, members in (("j", shuffled[:cut]), ("i", shuffled[cut:])):
        if members and chance.random() < 0.7:
            early = chance.randint(0, 1)
            due = chance.randint(horizon - 1, horizon)
            jobs.append((name, early, due, chance.random() < 0.5, members))
    setups = [
        (bench, first, second, chance.randint(1, 2))
        for bench in benches
        for first in kinds
        for second in kinds
        if chance.random() < 0.3
    ]
    links = [
        (one, other, chance.randint(0, 2))
        for one in steps
        for other in steps
        if one != other and chance.random() < 0.15
    ]
    stocks = []
    for name in ("s", "t")[: chance.randint(0, 2)]:
        room = chance.randint(0, 4)
        stocks.append((name, chance.randint(0, room), room, amounts(), amounts()))
    return {
        "horizon": horizon,
        "benches": [(bench, breaks()) for bench in benches],
        "steps": [(step, chance.choice(kinds), ways()) for step in steps],
        "jobs": jobs,
        "setups": setups,
        "links": links,
        "stocks": stocks,
    }


def copied(thing):
    """A deep copy of a thing."""
    return copy.deepcopy(thing)
