"""[2], [36], [37], [38]: schedules built by rows, rows by rules, rows made better by exchanges."""

import inspect
import itertools
import random
import unittest

from shopbound.builders import built_by, made_better, row_by
from shopbound.schedules import first_broken, length_of
from tests.roomy import roomy_parts
from tests.samples import chance_parts, copied, lists_of, shop_of, small_shop, spoil_lists

RULES = ("told", "long", "due", "slack")


def narrowed(parts, steps):
    """The parts of a shop with some of its steps alone, and without stocks."""
    def among(pairs):
        return [row for row in pairs if row[0] in steps and row[1] in steps]

    jobs = [(name, early, due, ordered, [step for step in members if step in steps])
            for name, early, due, ordered, members in parts["jobs"]]
    new = dict(parts, stocks=[], links=among(parts["links"]))
    new["steps"] = [row for row in parts["steps"] if row[0] in steps]
    new["jobs"] = [job for job in jobs if job[4]]
    return new


def slow_built(parts, row):
    """What is built by a row, every start of every way gone through."""
    plan = {}
    for step in row:
        shop = shop_of(narrowed(parts, list(plan) + [step]))
        best = None
        for bench, length in [ways for name, _, ways in parts["steps"] if name == step][0]:
            for start in range(parts["horizon"] + 1):
                new = dict(plan)
                new[step] = (bench, start)
                if first_broken(shop, new) is None and (best is None or start + length < best[0]):
                    best = (start + length, bench, start)
        if best is None:
            return None
        plan[step] = best[1:]
    return plan if first_broken(shop_of(parts), plan) is None else None


def slow_row(parts, rule):
    """The row by a rule, asked of the parts alone."""
    steps = [row[0] for row in parts["steps"]]
    least = {name: min(length for _, length in ways) for name, _, ways in parts["steps"]}
    due = {step: parts["horizon"] for step in steps}
    ahead = {(one, other) for one, other, _ in parts["links"]}
    for _, _, moment, ordered, members in parts["jobs"]:
        due.update({step: moment for step in members})
        if ordered:
            ahead.update(itertools.combinations(members, 2))
    ranks = {
        "told": lambda step: 0,
        "long": lambda step: -least[step],
        "due": lambda step: due[step],
        "slack": lambda step: due[step] - least[step],
    }
    row = []
    while len(row) < len(steps):
        free = [step for step in steps if step not in row]
        free = [step for step in free if all(one in row for one, other in ahead if other == step)]
        if not free:
            return None
        row.append(sorted(free, key=lambda step: (ranks[rule](step), steps.index(step)))[0])
    return row


def slow_better(parts, row, tries):
    """A row made better, told as a walk over all pairs that begins anew."""
    shop = shop_of(parts)
    plan = slow_built(parts, row)
    left = tries
    taken = True
    while taken:
        taken = False
        for one, other in itertools.combinations(range(len(row)), 2):
            if left == 0:
                return row, plan
            left -= 1
            new = list(row)
            new[one], new[other] = new[other], new[one]
            found = slow_built(parts, new)
            if found is not None and (plan is None or length_of(shop, found) < length_of(shop, plan)):
                row, plan, taken = new, found, True
                break
    return row, plan


class BuiltTest(unittest.TestCase):
    def shop(self, **parts):
        new = {
            "steps": [("one", "k", [("b", 3)]), ("two", "l", [("b", 2)]), ("zed", "k", [("c", 4), ("b", 1)])],
        }
        new.update(parts)
        return small_shop(**new)

    def built(self, row, asked, **parts):
        shop = self.shop(**parts)
        before = list(row)
        self.assertEqual(built_by(shop, row), asked)
        self.assertEqual(row, before)

    def test_one_behind_the_other(self):
        self.built(["one", "two", "zed"], {"one": ("b", 0), "two": ("b", 3), "zed": ("c", 0)})
        self.built(["two", "one", "zed"], {"two": ("b", 0), "one": ("b", 2), "zed": ("c", 0)})
        self.built(["zed", "two", "one"], {"zed": ("b", 0), "two": ("b", 1), "one": ("b", 3)})

    def test_of_two_ways_that_end_at_once_the_first_one_told(self):
        for ways in ([("c", 2), ("b", 2)], [("b", 2), ("c", 2)]):
            self.assertEqual(built_by(small_shop(steps=[("one", "k", ways)]), ["one"]), {"one": (ways[0][0], 0)})
        steps = [("one", "k", [("c", 3), ("b", 1)])]
        shop = small_shop(steps=steps, benches=[("b", [(0, 2)]), ("c", [])])
        self.assertEqual(built_by(shop, ["one"]), {"one": ("c", 0)})
        shop = small_shop(steps=steps, benches=[("b", [(0, 1)]), ("c", [])])
        self.assertEqual(built_by(shop, ["one"]), {"one": ("b", 1)})

    def test_a_place_ahead_of_those_put(self):
        jobs = [("j", 5, 20, False, ["one"])]
        self.built(["one", "two", "zed"], {"one": ("b", 5), "two": ("b", 0), "zed": ("b", 2)}, jobs=jobs)
        setups = [("b", "l", "k", 4)]
        self.built(["one", "two", "zed"], {"one": ("b", 5), "two": ("b", 8), "zed": ("b", 0)}, jobs=jobs, setups=setups)

    def test_a_place_between(self):
        jobs = [("j", 5, 20, False, ["one"])]
        benches = [("b", [(0, 2)]), ("c", [])]
        plan = {"one": ("b", 5), "two": ("b", 2), "zed": ("c", 0)}
        self.built(["one", "two", "zed"], plan, jobs=jobs, benches=benches)

    def test_links_to_steps_put_before_and_later(self):
        links = [("two", "one", 4)]
        self.built(["two", "one", "zed"], {"two": ("b", 0), "one": ("b", 6), "zed": ("b", 2)}, links=links)
        self.built(["one", "two", "zed"], None, links=links)
        jobs = [("j", 7, 20, False, ["one"])]
        self.built(["one", "two", "zed"], {"one": ("b", 7), "two": ("b", 0), "zed": ("b", 2)}, links=links, jobs=jobs)

    def test_jobs(self):
        ordered = [("j", 0, 20, True, ["two", "one"])]
        steps = [("one", "k", [("b", 3)]), ("two", "l", [("c", 2)])]
        self.built(["two", "one"], {"two": ("c", 0), "one": ("b", 2)}, steps=steps, jobs=ordered)
        self.built(["one", "two"], None, steps=steps, jobs=ordered)
        free = [("j", 0, 20, False, ["two", "one"])]
        self.built(["one", "two"], {"one": ("b", 0), "two": ("c", 3)}, steps=steps, jobs=free)
        tight = [("j", 0, 4, False, ["two", "one"])]
        self.built(["one", "two"], None, steps=steps, jobs=tight)

    def test_the_horizon(self):
        self.built(["one", "two", "zed"], {"one": ("b", 0), "two": ("b", 3), "zed": ("c", 0)}, horizon=5)
        self.built(["two", "one", "zed"], {"two": ("b", 0), "one": ("b", 2), "zed": ("c", 0)}, horizon=5)
        steps = [("one", "k", [("b", 3)]), ("two", "l", [("b", 2)])]
        self.built(["two", "one"], None, horizon=4, steps=steps)

    def test_stocks_are_looked_at_only_at_the_end(self):
        stocks = [("s", 0, 1, [("two", 1)], [("one", 1)])]
        plan = {"one": ("b", 0), "two": ("b", 3), "zed": ("c", 0)}
        self.built(["one", "two", "zed"], plan, stocks=stocks)
        self.built(["two", "one", "zed"], None, stocks=stocks)

    def test_beside_all_starts_of_all_ways(self):
        built = 0
        for seed in range(130):
            parts = roomy_parts(seed) if seed % 3 else chance_parts(seed)
            shop = shop_of(parts)
            steps = [row[0] for row in parts["steps"]]
            for row in random.Random(seed).sample(list(itertools.permutations(steps)), min(4, len(steps))):
                asked = slow_built(parts, list(row))
                self.assertEqual(built_by(shop, list(row)), asked, (seed, row))
                built += asked is not None
        self.assertGreater(built, 80)


class RowTest(unittest.TestCase):
    def shop(self, **parts):
        new = {
            "steps": [
                ("a", "k", [("b", 3), ("c", 9)]), ("e", "k", [("b", 8), ("c", 5)]), ("d", "k", [("b", 5)]),
                ("f", "k", [("b", 1)]),
            ],
            "jobs": [("j", 0, 12, False, ["d"]), ("i", 0, 9, False, ["e", "a"])],
        }
        new.update(parts)
        return small_shop(**new)

    def test_each_rule(self):
        shop = self.shop()
        self.assertEqual(row_by(shop, "told"), ["a", "e", "d", "f"])
        self.assertEqual(row_by(shop, "long"), ["e", "d", "a", "f"])
        self.assertEqual(row_by(shop, "due"), ["a", "e", "d", "f"])
        self.assertEqual(row_by(shop, "slack"), ["e", "a", "d", "f"])

    def test_a_step_without_a_job_is_due_at_the_horizon(self):
        shop = self.shop(horizon=9, jobs=[("i", 0, 9, False, ["e"]), ("j", 0, 8, False, ["f"])])
        self.assertEqual(row_by(shop, "due"), ["f", "a", "e", "d"])
        self.assertEqual(row_by(shop, "slack"), ["e", "d", "a", "f"])

    def test_a_step_is_free_behind_those_ahead_of_it(self):
        shop = self.shop(links=[("f", "a", 0), ("d", "f", 3)])
        self.assertEqual(row_by(shop, "told"), ["e", "d", "f", "a"])
        self.assertEqual(row_by(shop, "due"), ["e", "d", "f", "a"])
        shop = self.shop(jobs=[("j", 0, 20, True, ["f", "a", "e"])])
        self.assertEqual(row_by(shop, "long"), ["d", "f", "a", "e"])

    def test_rings(self):
        for links in ([("a", "e", 0), ("e", "a", 0)], [("a", "e", 0), ("e", "d", 0), ("d", "a", 0)]):
            for rule in RULES:
                self.assertIsNone(row_by(self.shop(links=links), rule))
        self.assertIsNone(row_by(self.shop(links=[("a", "e", 0)], jobs=[("i", 0, 9, True, ["e", "a"])]), "told"))

    def test_beside_a_second_reading(self):
        for seed in range(200):
            parts = roomy_parts(seed, most_steps=6) if seed % 2 else chance_parts(seed)
            for rule in RULES:
                self.assertEqual(row_by(shop_of(parts), rule), slow_row(parts, rule), (seed, rule))


class BetterTest(unittest.TestCase):
    def shop(self, **parts):
        """The longest step last is worst."""
        new = {
            "steps": [("one", "k", [("b", 2), ("c", 2)]), ("two", "k", [("b", 2), ("c", 2)]), ("zed", "k", [("b", 4), ("c", 4)])],
        }
        new.update(parts)
        return small_shop(**new)

    def test_no_tries(self):
        row = ["one", "two", "zed"]
        told = made_better(self.shop(), row, 0)
        self.assertEqual(told, (row, {"one": ("b", 0), "two": ("c", 0), "zed": ("b", 2)}))
        self.assertIsNot(told[0], row)

    def test_one_try(self):
        row = ["one", "two", "zed"]
        self.assertEqual(made_better(self.shop(), row, 1), made_better(self.shop(), row, 0))

    def test_an_exchange_that_is_taken(self):
        better = (["zed", "two", "one"], {"zed": ("b", 0), "two": ("c", 0), "one": ("c", 2)})
        for tries in (2, 3, 5, 200):
            self.assertEqual(made_better(self.shop(), ["one", "two", "zed"], tries), better)

    def test_the_pairs_begin_anew(self):
        # behind (0, 2) the pair (0, 1) is tried again, not (1, 2)
        parts = roomy_parts(0)
        taken = 0
        for seed in range(300):
            parts = roomy_parts(seed)
            row = [step[0] for step in parts["steps"]]
            for tries in (1, 2, 3, 4, 6):
                self.assertEqual(made_better(shop_of(parts), row, tries), slow_better(parts, row, tries), (seed, tries))
            taken += made_better(shop_of(parts), row, 6)[0] != row
            if taken > 25:
                break
        self.assertGreater(taken, 25)

    def test_nothing_is_built(self):
        shop = self.shop(links=[("two", "one", 0), ("one", "two", 0)])
        for tries in (0, 1, 200):
            self.assertEqual(made_better(shop, ["two", "zed", "one"], tries), (["two", "zed", "one"], None))

    def test_what_is_built_behind_a_row_by_which_nothing_was(self):
        shop = self.shop(links=[("two", "one", 0)])
        self.assertEqual(made_better(shop, ["one", "two", "zed"], 0), (["one", "two", "zed"], None))
        self.assertEqual(made_better(shop, ["one", "two", "zed"], 1)[0], ["two", "one", "zed"])
        # nothing shorter stands behind it, and all pairs are tried
        told = made_better(shop, ["one", "two", "zed"], 200)
        self.assertEqual(told, slow_better(lists_of(shop), ["one", "two", "zed"], 200))

    def test_one_step(self):
        self.assertEqual(made_better(small_shop(), ["one"], 200), (["one"], {"one": ("b", 0)}))


class OwnTest(unittest.TestCase):
    def test_nothing_handed_in_is_changed(self):
        for seed in range(20):
            shop = shop_of(roomy_parts(seed))
            before = lists_of(shop)
            row = shop.step_names()
            built_by(shop, row)
            made_better(shop, row, 4)
            for rule in RULES:
                row_by(shop, rule)
            self.assertEqual(row, shop.step_names())
            self.assertEqual(lists_of(shop), before)

    def test_what_is_told_is_the_askers_own(self):
        for seed in range(20):
            shop = shop_of(roomy_parts(seed))
            row = shop.step_names()
            for ask in (
                lambda: built_by(shop, row), lambda: row_by(shop, "slack"), lambda: made_better(shop, row, 0),
                lambda: made_better(shop, row, 7),
            ):
                told = ask()
                kept = copied(told)
                spoil_lists(told)
                self.assertEqual(row, shop.step_names())
                self.assertEqual(ask(), kept)

    def test_names(self):
        self.assertEqual(str(inspect.signature(built_by)), "(shop, row)")
        self.assertEqual(str(inspect.signature(row_by)), "(shop, rule)")
        self.assertEqual(str(inspect.signature(made_better)), "(shop, row, tries)")


if __name__ == "__main__":
    unittest.main()
