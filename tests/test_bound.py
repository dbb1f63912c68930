"""[2], [3], [39], [40]: the bound of a shop, with its schedule and its tree."""

import collections
import inspect
import random
import unittest

from shopbound.bound import bound_of
from shopbound.builders import built_by, row_by
from shopbound.checker import is_shut_by
from shopbound.facts import Facts
from shopbound.schedules import first_broken, length_of
from tests.roomy import all_schedules, boths_in, lists_within, roomy_parts, setup_shop
from tests.samples import chance_parts, copied, lists_of, names, shop_of, small_shop, spoil_lists

RULES = ("told", "long", "due", "slack")


def least_low(shop):
    """The least low that is promised."""
    lows = []
    for name, _, ways in shop.step_rows():
        job = shop.job_of(name)
        lows.append((job[1] if job else 0) + min(length for _, length in ways))
    return max(lows)


def shortest_by_rules(shop):
    """The length of the shortest schedule that a rule's row builds, or None."""
    rows = [row_by(shop, rule) for rule in RULES]
    plans = [built_by(shop, row) for row in rows if row is not None]
    return min([length_of(shop, plan) for plan in plans if plan is not None], default=None)


def grown_parts(seed, many, horizon, ways=1):
    """Parts of a shop without stocks, its lengths, setups and gaps drawn from the whole horizon."""
    chance = random.Random(f"grown {seed}")
    benches = ["b", "c", "d"][: chance.randint(1, 3)]

    def some(share):
        return chance.randint(1, max(1, horizon // share))

    def breaks():
        ends = sorted(chance.sample(range(horizon + 1), min(horizon // 2 * 2, chance.choice([0, 2, 4, 20]))))
        return list(zip(ends[::2], ends[1::2]))

    steps = [
        (name, chance.choice(["k", "l"]), [(bench, some(chance.choice([3, 6, 30]))) for bench in chance.sample(benches, min(ways, len(benches)))])
        for name in names(many)
    ]
    jobs = []
    if chance.random() < 0.5:
        early = chance.choice([0, some(5)])
        jobs.append(("j", early, chance.choice([horizon, horizon - some(5)]), chance.random() < 0.5, names(many)[:chance.randint(1, many)]))
    links = [(one, other, some(8)) for one in names(many) for other in names(many) if one != other and chance.random() < 0.12]
    setups = [(bench, first, second, some(6)) for bench in benches for first in "kl" for second in "kl" if chance.random() < 0.4]
    return {
        "horizon": horizon, "benches": [(bench, breaks()) for bench in benches], "steps": steps, "jobs": jobs,
        "setups": setups, "links": links, "stocks": [],
    }


def turned(parts, chance):
    """The parts of a shop with its rows in another order, in every list."""
    new = {key: chance.sample(rows, len(rows)) for key, rows in parts.items() if key != "horizon"}
    new["horizon"] = parts["horizon"]
    return new


class BoundCase(unittest.TestCase):
    def told(self, shop, most):
        """What is told of a shop, looked at in every way."""
        before = lists_of(shop)
        told = bound_of(shop, most)
        self.assertEqual(lists_of(shop), before)
        self.assertIsInstance(told, tuple)
        if told[0] == "best":
            _, schedule, tree = told
            self.assertIsNone(first_broken(shop, schedule))
            limit = length_of(shop, schedule) - 1
        elif told[0] == "none":
            _, tree = told
            limit = shop.last_moment()
        else:
            word, schedule, low, tree = told
            self.assertEqual(word, "open")
            self.looked_at_open(shop, schedule, low)
            limit = low - 1
        self.assertTrue(is_shut_by(Facts(shop, limit), tree))
        self.assertLessEqual(boths_in(tree), most)
        return told

    def looked_at_open(self, shop, schedule, low):
        self.assertGreaterEqual(low, least_low(shop))
        shortest = shortest_by_rules(shop)
        if schedule is None:
            self.assertLessEqual(low, shop.last_moment())
            self.assertIsNone(shortest)
        else:
            self.assertIsNone(first_broken(shop, schedule))
            self.assertLess(low, length_of(shop, schedule))
            self.assertTrue(shortest is None or length_of(shop, schedule) <= shortest)


class PlainTest(BoundCase):
    def test_one_step(self):
        for most in (0, 400):
            self.assertEqual(self.told(small_shop(), most), ("best", {"one": ("b", 0)}, ([], ("window", "one"))))

    def test_one_step_of_several_ways(self):
        benches = [("b", [(2, 9)]), ("c", [(0, 4)]), ("d", [(1, 2), (3, 4), (6, 7)])]
        steps = [("one", "k", [("b", 3), ("c", 4), ("d", 2)])]
        told = self.told(small_shop(benches=benches, steps=steps), 400)
        self.assertEqual(told[:2], ("best", {"one": ("d", 4)}))

    def test_none(self):
        self.assertEqual(self.told(small_shop(jobs=[("j", 19, 20, True, ["one"])]), 0)[0], "none")
        self.assertEqual(self.told(small_shop(jobs=[("j", 5, 7, True, ["one"])]), 0)[0], "none")
        ring = [("one", "two", 0), ("two", "one", 0)]
        steps = [("one", "k", [("b", 3)]), ("two", "k", [("c", 3)])]
        self.assertEqual(self.told(small_shop(steps=steps, links=ring, horizon=10 ** 6), 400)[0], "none")

    def test_open(self):
        shop = setup_shop(6, 0)
        words = [self.told(shop, most)[0] for most in (0, 1, 5, 20, 400)]
        self.assertEqual(words, ["open", "open", "open", "best", "best"])
        self.assertEqual(length_of(shop, self.told(shop, 400)[1]), 30)

    def test_open_without_a_schedule(self):
        # no row of the rules builds one, as the stock is looked at only at the end
        found = set()
        for seed in range(250):
            shop = shop_of(roomy_parts(seed, most_steps=6, most_ways=2, horizon=9))
            told = self.told(shop, 0)
            if told[0] == "open":
                found.add(told[1] is None)
        self.assertEqual(found, {True, False})

    def test_low_is_the_least_that_is_promised_at_least(self):
        steps = [(name, "k", [("b", 2), ("c", 2)]) for name in names(5)] + [("one", "k", [("b", 3)])]
        told = self.told(small_shop(steps=steps, jobs=[("j", 9, 20, False, ["one"])]), 0)
        self.assertEqual((told[0], length_of(small_shop(steps=steps), told[1])), ("best", 12))

    def test_names(self):
        self.assertEqual(str(inspect.signature(bound_of)), "(shop, most)")


class ManyTest(BoundCase):
    def test_all_schedules_gone_through(self):
        words = collections.Counter()
        for seed in range(110):
            parts = roomy_parts(seed, most_steps=3, horizon=7) if seed % 4 else chance_parts(seed)
            shop = shop_of(parts)
            least = min([length_of(shop, schedule) for schedule in all_schedules(parts)], default=None)
            for most in (0, 1, 5, 400):
                told = self.told(shop, most)
                words[most, told[0]] += 1
                if told[0] == "best":
                    self.assertEqual(length_of(shop, told[1]), least)
                elif told[0] == "none":
                    self.assertIsNone(least)
                else:
                    self.assertTrue(least is None or told[2] <= least)
        for key in ((0, "best"), (0, "none"), (0, "open"), (400, "best"), (400, "none")):
            self.assertGreater(words[key], 0, words)

    def test_more_steps(self):
        words = collections.Counter()
        for seed in range(40):
            shop = shop_of(roomy_parts(seed, most_steps=6, most_ways=3))
            for most in (0, 3, 400):
                words[self.told(shop, most)[0]] += 1
        self.assertTrue(words["best"] > 5 and words["none"] > 5, words)

    def test_one_step_without_stocks(self):
        for seed in range(100):
            horizon = (2, 9, 300, 10 ** 6)[seed % 4]
            self.assertIn(self.told(shop_of(grown_parts(seed, 1, horizon, 1 + seed % 3)), 400)[0], ("best", "none"))

    def test_at_most_two_steps_of_one_way_with_a_horizon_of_at_most_six(self):
        words = collections.Counter()
        for seed in range(150):
            parts = roomy_parts(seed, most_steps=2, most_ways=1, horizon=1 + seed % 6)
            words[self.told(shop_of(parts), 400)[0]] += 1
        self.assertEqual(set(words), {"best", "none"})

    def test_at_most_three_steps_of_one_way_without_stocks(self):
        words = collections.Counter()
        for seed in range(160):
            horizon = (7, 60, 1000, 10 ** 6)[seed % 4]
            words[self.told(shop_of(grown_parts(seed, 2 + seed % 2, horizon)), 400)[0]] += 1
        self.assertEqual(set(words), {"best", "none"})
        self.assertGreater(min(words.values()), 15)

    def test_three_on_one_bench_with_a_long_horizon(self):
        steps = [("one", "k", [("b", 123456)]), ("two", "l", [("b", 200000)]), ("zed", "m", [("b", 77777)])]
        setups = [("b", "k", "l", 50000), ("b", "l", "m", 10), ("b", "m", "k", 1), ("b", "m", "l", 30000), ("b", "k", "m", 9)]
        shop = small_shop(horizon=10 ** 6, steps=steps, setups=setups, benches=[("b", [(200000, 200001)])])
        word, schedule, _ = self.told(shop, 400)
        self.assertEqual(word, "best")
        # two ahead of one costs nothing, and zed, made ready for one by a moment, is done ahead of both
        lengths = []
        for row in (["one", "two", "zed"], ["one", "zed", "two"], ["two", "one", "zed"], ["two", "zed", "one"],
                    ["zed", "one", "two"], ["zed", "two", "one"]):
            plan = built_by(shop, row)
            lengths.append(length_of(shop, plan))
        self.assertEqual(length_of(shop, schedule), min(lengths))

    def test_one_puts_what_the_other_takes(self):
        for seed in range(60):
            chance = random.Random(seed)
            horizon = chance.randint(10, 60)
            steps = [("one", "k", [("b", chance.randint(1, 9))]), ("two", "k", [(chance.choice("bc"), chance.randint(1, 9))])]
            room = chance.randint(1, 2)
            stocks = [("s", chance.randint(0, 1), room, [("two", 1)], [("one", chance.randint(1, 2))])]
            if chance.random() < 0.5:
                stocks.append(("t", chance.randint(0, 1), 1, [("one", 1)], [("two", 1)]))
            shop = small_shop(horizon=horizon, steps=steps, stocks=stocks, benches=[("b", [(5, 7)]), ("c", [])])
            self.told(shop, 400)


class TurnedTest(BoundCase):
    def test_rows_turned_about(self):
        same = 0
        for seed in range(60):
            parts = roomy_parts(seed, most_steps=4)
            told = bound_of(shop_of(parts), 400)
            for turn in range(2):
                other = turned(parts, random.Random(turn))
                new = bound_of(shop_of(other), 400)
                if told[0] == "best" and new[0] == "best":
                    same += 1
                    self.assertEqual(length_of(shop_of(parts), told[1]), length_of(shop_of(parts), new[1]))
                self.assertFalse({told[0], new[0]} == {"best", "none"})
        self.assertGreater(same, 20)


class OwnTest(BoundCase):
    def test_asked_again_the_same_is_told(self):
        for seed in range(40):
            shop = shop_of(roomy_parts(seed))
            for most in (0, 400):
                told = bound_of(shop, most)
                kept = copied(told)
                lists = [id(part) for part in lists_within(told)]
                self.assertEqual(len(lists), len(set(lists)))
                spoil_lists(told)
                self.assertEqual(bound_of(shop, most), kept)


if __name__ == "__main__":
    unittest.main()
