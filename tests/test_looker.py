"""[3], [14], [15], [20]: the plain looker beside another one, that asks moment by moment, over many small shops."""

import itertools
import random
import unittest

from shopbound.orders import known_orders, sure_pairs
from shopbound.schedules import ends_of, first_broken, length_of
from tests.samples import chance_parts, shop_of
from tests.slow import every_schedule


def slow_wishes(parts, schedule):
    """Every wish that a schedule of just the shop's steps breaks, in the told order."""
    steps = {name: (kind, dict(ways)) for name, kind, ways in parts["steps"]}
    order = [row[0] for row in parts["steps"]]
    where = {name: schedule[name][0] for name in order}
    start = {name: schedule[name][1] for name in order}
    horizon = parts["horizon"]
    for name in order:
        length = steps[name][1].get(where[name])
        if length is None or start[name] not in range(horizon + 1) or start[name] + length not in range(horizon + 1):
            yield ("way", name)
            return
    moments = {name: list(range(start[name], start[name] + steps[name][1][where[name]])) for name in order}
    end = {name: moments[name][-1] + 1 for name in order}
    for name in order:
        for job in parts["jobs"]:
            if name in job[4] and not (job[1] <= start[name] and end[name] <= job[2]):
                yield ("job", name)
    for name in order:
        for begin, until in dict(parts["benches"])[where[name]]:
            if set(range(begin, until)) & set(moments[name]):
                yield ("break", name)
    ready = {row[:3]: row[3] for row in parts["setups"]}
    for one, other in itertools.combinations(order, 2):
        if where[one] == where[other]:
            early, late = sorted((one, other), key=lambda name: start[name])
            setup = ready.get((where[one], steps[early][0], steps[late][0]), 0)
            if start[one] == start[other] or start[late] - end[early] < setup:
                yield ("bench", one, other)
    for job in parts["jobs"]:
        for one, other in itertools.combinations(job[4], 2):
            if set(moments[one]) & set(moments[other]) or (job[3] and start[other] < end[one]):
                yield ("apart", one, other)
    for one, other, gap in parts["links"]:
        if start[other] - end[one] < gap:
            yield ("link", one, other)
    for name, first, room, takes, puts in parts["stocks"]:
        level = first
        for moment in range(horizon + 1):
            level -= sum(amount for step, amount in takes if start[step] == moment)
            level += sum(amount for step, amount in puts if end[step] == moment)
            if level < 0 or level > room:
                yield ("stock", name, moment)
                break


def chance_schedule(parts, chance):
    """A schedule of the shop's steps, mostly within its moments and on benches of their ways."""
    places = {}
    for name, _, ways in parts["steps"]:
        bench = chance.choice([way[0] for way in ways] * 8 + ["b", "c", "d"])
        places[name] = (bench, chance.choice(list(range(parts["horizon"])) * 3 + [-1, parts["horizon"]]))
    return places


class LookerTest(unittest.TestCase):
    def test_the_first_broken_wish_of_many_schedules(self):
        seen = {}
        for seed in range(400):
            parts = chance_parts(seed)
            shop = shop_of(parts)
            chance = random.Random(seed)
            for turn in range(40):
                places = chance_schedule(parts, chance)
                asked = next(slow_wishes(parts, places), None)
                told = first_broken(shop, places)
                if told != asked:
                    self.fail(f"seed {seed}: {parts} {places}: {told}, not {asked}")
                kind = "kept" if told is None else told[0]
                seen[kind] = seen.get(kind, 0) + 1
        self.assertEqual(sorted(seen), ["apart", "bench", "break", "job", "kept", "link", "stock", "way"])
        self.assertGreater(min(seen.values()), 40)

    def test_pairs_are_apart_and_orders_kept_in_every_schedule_that_keeps_the_shop(self):
        kept = 0
        for seed in range(120):
            parts = chance_parts(seed)
            if len(parts["steps"]) > 3:
                continue
            shop = shop_of(parts)
            for places in every_schedule(parts):
                if first_broken(shop, places) is None:
                    kept += 1
                    self.asked_of_one_that_keeps(shop, places)
        self.assertGreater(kept, 200)

    def asked_of_one_that_keeps(self, shop, places):
        ends = ends_of(shop, places)
        self.assertEqual(length_of(shop, places), max(ends.values()))
        for one, other in sure_pairs(shop):
            self.assertTrue(places[one][1] >= ends[other] or places[other][1] >= ends[one])
        for one, other, gap in known_orders(shop):
            self.assertGreaterEqual(places[other][1], ends[one] + gap)


if __name__ == "__main__":
    unittest.main()
