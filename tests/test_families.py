"""[3], [39], [43]: facts of shops that want many kinds of choices and leaves searched, beside all schedules."""

import collections
import random
import unittest

from shopbound.checker import is_shut_by
from shopbound.facts import Facts
from shopbound.search import searched
from tests.roomy import all_schedules, boths_in, trees_within
from tests.samples import shop_of


def parts_with(horizon, benches, steps, **lists):
    """Parts of a shop with little else than told."""
    parts = {"horizon": horizon, "benches": benches, "steps": steps, "jobs": [], "setups": [], "links": [], "stocks": []}
    parts.update(lists)
    return parts


def stock_parts(seed):
    """Steps on benches of their own, that take from stocks and put into them."""
    chance = random.Random(f"stock {seed}")
    many = chance.randint(2, 4)
    names = ["a", "of", "two", "four"][:many]
    benches = [(bench, [(2, 3)] if chance.random() < 0.2 else []) for bench in "bcde"[:many]]
    steps = [(name, "k", [(bench[0], chance.randint(1, 3))]) for name, bench in zip(names, benches)]
    horizon = chance.randint(5, 7)
    stocks = []
    for stock in "st"[: chance.randint(1, 2)]:
        room = chance.randint(1, 3)
        sides = {name: chance.choice(["take", "put", "both", "none"]) for name in names}
        takes = [(name, chance.randint(1, 2)) for name in names if sides[name] in ("take", "both")]
        puts = [(name, chance.randint(1, 2)) for name in names if sides[name] in ("put", "both")]
        stocks.append((stock, chance.randint(0, room), room, takes, puts))
    return parts_with(horizon, benches, steps, stocks=stocks)


def flood_parts(seed):
    """A stock that is full at first, so that puts wait for takes, and another one that wants the same puts soon."""
    chance = random.Random(f"flood {seed}")
    horizon = chance.randint(6, 8)
    names = ["a", "of", "two", "four"][: chance.randint(3, 4)]
    putters = names[: chance.randint(1, 2)]
    takers = names[len(putters):]
    benches = [(bench, []) for bench in "bcde"]
    steps = [(name, "k", [(bench, chance.randint(1, 2))]) for name, bench in zip(names, "bcde")]
    jobs = [(f"j{name}", chance.randint(0, 3), horizon, True, [name]) for name in takers]
    room = chance.randint(1, 2)
    full = ("s", room, room, [(name, 1) for name in takers], [(name, 1) for name in putters])
    stocks = [full]
    if chance.random() < 0.7:
        wanting = chance.sample(takers, chance.randint(1, len(takers)))
        stocks.append(("t", 0, 3, [(name, 1) for name in wanting], [(name, chance.randint(1, 2)) for name in putters]))
    chance.shuffle(stocks)
    return parts_with(horizon, benches, steps, stocks=stocks, jobs=jobs)


def crowded_parts(seed):
    """Steps of one job in any order, each on one bench or another, in little time."""
    chance = random.Random(f"crowded {seed}")
    names = ["a", "of", "two"]
    benches = [(bench, [(3, 4)] if chance.random() < 0.3 else []) for bench in "bcd"]
    steps = [(name, chance.choice("kl"), [(bench, chance.randint(1, 3)) for bench in chance.sample("bcd", 2)]) for name in names]
    horizon = chance.randint(5, 7)
    jobs = [("j", chance.randint(0, 1), horizon, False, chance.sample(names, chance.randint(2, 3)))]
    setups = [(bench, first, second, 1) for bench in "bcd" for first in "kl" for second in "kl" if chance.random() < 0.3]
    return parts_with(horizon, benches, steps, jobs=jobs, setups=setups)


def bench_parts(seed):
    """Steps on one bench or two with setups, links and early moments."""
    chance = random.Random(f"bench {seed}")
    names = ["a", "of", "two", "four"][: chance.randint(3, 4)]
    horizon = chance.randint(6, 8)
    benches = [("b", [(chance.randint(1, 4), 5)] if chance.random() < 0.3 else []), ("c", [])]
    steps = [(name, chance.choice("klm"), [(chance.choice("bbc"), chance.randint(1, 2))]) for name in names]
    jobs = [("j" + name, chance.randint(0, 2), chance.randint(horizon - 2, horizon), True, [name]) for name in names[:2]]
    setups = [("b", first, second, chance.randint(1, 2)) for first in "klm" for second in "klm" if chance.random() < 0.5]
    links = [("a", "of", 1)] if chance.random() < 0.3 else []
    return parts_with(horizon, benches, steps, jobs=jobs, setups=setups, links=links)


def kept_facts(parts, schedules, chance):
    """Facts with a kept plan: one that keeps the shop, bent, or one of chance."""
    shop = shop_of(parts)
    limit = max(1, parts["horizon"] - chance.choice([0, 0, 1, 2]))
    if schedules and chance.random() < 0.5:
        kept = dict(chance.choice(schedules))
        for step in chance.sample(list(kept), chance.randint(1, len(kept))):
            kept[step] = (kept[step][0], kept[step][1] + chance.choice([-1, 1]))
    else:
        kept = {step: (chance.choice(ways)[0], chance.randint(0, limit)) for step, _, ways in parts["steps"]}
    return Facts(shop, limit, None, kept, chance.randint(0, len(kept) - 1), chance.choice([0, 0, 1]))


class FamilyCase(unittest.TestCase):
    def looked_at(self, facts, schedules, most):
        """What is told of facts, beside all schedules."""
        word, thing, many = searched(facts, most)
        going = [schedule for schedule in schedules if facts.goes(schedule)]
        if word == "found":
            self.assertTrue(facts.goes(thing))
        if word == "shut":
            self.assertTrue(is_shut_by(facts, thing))
            self.assertEqual(boths_in(thing), many)
            self.words.update(inner[1][0] for inner in trees_within(thing))
            self.words.update(row[1][0] for inner in trees_within(thing) for row in inner[0] if row[0] == "not")
            self.words.update(inner[1][1][0] for inner in trees_within(thing) if inner[1][0] == "both")
        self.assertFalse(word == "shut" and going)
        self.assertFalse(word == "found" and not going)
        self.assertLessEqual(many, most)
        return word

    def walk(self, parts_of, seeds, asked):
        """A family walked: every limit, and kept plans; the words asked for stand in the trees."""
        self.words = collections.Counter()
        told = collections.Counter()
        for seed in seeds:
            parts = parts_of(seed)
            schedules = all_schedules(parts)
            shop = shop_of(parts)
            for limit in range(1, parts["horizon"] + 1):
                word = self.looked_at(Facts(shop, limit), schedules, 400)
                self.assertNotEqual(word, "spent", (seed, limit))
                told[word] += 1
            chance = random.Random(seed)
            for most in (0, 2, 400):
                told[self.looked_at(kept_facts(parts, schedules, chance), schedules, most)] += 1
        self.assertGreater(min(told["found"], told["shut"]), len(seeds) // 2, told)
        for word in asked:
            self.assertGreater(self.words[word], 0, self.words)


class FamilyTest(FamilyCase):
    def test_stocks(self):
        # in the trees of those behind 50 puts are delayed, too
        seeds = list(range(50)) + [416, 594, 1855, 1873, 1923, 1934]
        self.walk(stock_parts, seeds, ("stock", "start", "window", "keep", "moved"))

    def test_floods(self):
        self.walk(flood_parts, range(40), ("stock", "window", "keep", "moved"))

    def test_crowded_jobs(self):
        self.walk(crowded_parts, range(30), ("order", "on", "window", "together", "keep", "moved"))

    def test_one_bench(self):
        self.walk(bench_parts, range(25), ("order", "window", "keep", "moved"))


if __name__ == "__main__":
    unittest.main()
