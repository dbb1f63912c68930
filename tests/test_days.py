"""[2], [3], [41], [42], [43]: what was begun, what serves a day, and days planned anew."""

import collections
import inspect
import random
import unittest

from shopbound.checker import is_shut_by
from shopbound.days import begun_of, moved_of, planned_anew, serves_day
from shopbound.errors import Gone
from shopbound.facts import Facts
from shopbound.schedules import first_broken
from tests.roomy import all_schedules, boths_in, lists_within, roomy_parts, setup_shop
from tests.samples import copied, lists_of, names, shop_of, small_shop, spoil_lists


def day_shop(**parts):
    new = {
        "steps": [("two", "k", [("b", 3), ("c", 5)]), ("one", "k", [("b", 4)]), ("zed", "l", [("c", 2)])],
    }
    new.update(parts)
    return small_shop(**new)


class BegunTest(unittest.TestCase):
    def gone(self, shop, plan, now):
        """The name with which a day is refused, by whatever is asked."""
        schedule = {step: ("b", 0) for step in shop.step_names()}
        told = []
        for ask in (
            lambda: begun_of(shop, plan, now),
            lambda: serves_day(shop, plan, now, 20, schedule),
            lambda: moved_of(shop, plan, now, schedule),
            lambda: planned_anew(shop, plan, now, 20, 5),
        ):
            before = copied(plan)
            with self.assertRaises(Gone) as caught:
                ask()
            self.assertEqual(plan, before)
            told.append(caught.exception.step)
        self.assertEqual(len(set(told)), 1)
        return told[0]

    def test_begun_steps_in_the_shops_order(self):
        plan = {"zed": ("c", 0), "one": ("b", 3), "two": ("b", 7)}
        for now, begun in ((0, []), (1, ["zed"]), (3, ["zed"]), (4, ["one", "zed"]), (8, ["two", "one", "zed"]), (20, ["two", "one", "zed"])):
            self.assertEqual(begun_of(day_shop(), plan, now), begun)

    def test_no_plan_and_names_passed_over(self):
        self.assertEqual(begun_of(day_shop(), {}, 20), [])
        self.assertEqual(begun_of(day_shop(), {"zed": ("c", 5), "stranger": ("b", 6), "": ("", 9)}, 6), ["zed"])

    def test_strangers(self):
        plan = {"zed": ("c", 0), "you": ("b", 3), "me": ("b", 5), "she": ("x", 4)}
        self.assertEqual(self.gone(day_shop(), plan, 4), "you")
        self.assertEqual(self.gone(day_shop(), plan, 5), "she")
        self.assertEqual(self.gone(day_shop(), plan, 6), "me")
        self.assertEqual(begun_of(day_shop(), plan, 3), ["zed"])
        plan[""] = ("b", -1)
        self.assertEqual(self.gone(day_shop(), plan, 6), "")

    def test_benches_that_are_none_of_the_steps(self):
        plan = {"zed": ("b", 0), "one": ("c", 1), "two": ("nowhere", 2)}
        self.assertEqual(begun_of(day_shop(), plan, 0), [])
        self.assertEqual(self.gone(day_shop(), plan, 1), "zed")
        self.assertEqual(self.gone(day_shop(), plan, 2), "one")
        self.assertEqual(self.gone(day_shop(), plan, 3), "two")
        plan["two"] = ("c", 2)
        self.assertEqual(self.gone(day_shop(), plan, 3), "one")

    def test_starts_below_0(self):
        self.assertEqual(self.gone(day_shop(), {"zed": ("c", -1)}, 0), "zed")
        self.assertEqual(self.gone(day_shop(), {"zed": ("c", -1), "one": ("b", -7)}, 0), "one")
        self.assertEqual(begun_of(day_shop(), {"zed": ("c", 0)}, 1), ["zed"])

    def test_a_stranger_comes_before_all_else(self):
        self.assertEqual(self.gone(day_shop(), {"two": ("x", 0), "you": ("b", 0)}, 1), "you")


class ServesTest(unittest.TestCase):
    PLAN = {"zed": ("c", 0), "one": ("b", 3), "two": ("b", 7), "stranger": ("b", 9)}

    def serves(self, asked, now, limit, schedule, plan=None):
        before = copied(schedule)
        self.assertIs(serves_day(day_shop(), plan or self.PLAN, now, limit, schedule), asked)
        self.assertEqual(schedule, before)

    def test_it_serves(self):
        schedule = {"zed": ("c", 0), "one": ("b", 3), "two": ("b", 7)}
        for now in (0, 1, 4, 8):
            self.serves(True, now, 10, schedule)
        self.serves(True, 8, 20, schedule)

    def test_the_limit(self):
        self.serves(False, 1, 9, {"zed": ("c", 0), "one": ("b", 3), "two": ("b", 7)})

    def test_it_keeps_not_the_shop(self):
        self.serves(False, 1, 20, {"zed": ("c", 0), "one": ("b", 3), "two": ("b", 6)})
        self.serves(False, 1, 20, {"zed": ("c", 0), "one": ("b", 3)})
        self.serves(False, 1, 20, {})
        self.serves(False, 1, 20, {"zed": ("c", 0), "one": ("b", 3), "two": ("b", 7), "stranger": ("b", 12)})

    def test_what_was_begun_is_moved(self):
        self.serves(False, 4, 20, {"zed": ("c", 0), "one": ("b", 4), "two": ("b", 8)})
        self.serves(True, 3, 20, {"zed": ("c", 0), "one": ("b", 4), "two": ("b", 8)})
        self.serves(False, 8, 20, {"zed": ("c", 0), "one": ("b", 3), "two": ("c", 7)})
        self.serves(True, 7, 20, {"zed": ("c", 0), "one": ("b", 3), "two": ("c", 7)})

    def test_others_start_from_now_on(self):
        self.serves(False, 4, 20, {"zed": ("c", 0), "one": ("b", 3), "two": ("c", 3)})
        self.serves(True, 4, 20, {"zed": ("c", 0), "one": ("b", 3), "two": ("c", 4)})
        self.serves(False, 4, 20, {"zed": ("c", 3), "one": ("b", 4), "two": ("b", 8)}, {"one": ("b", 4)})
        self.serves(True, 4, 20, {"zed": ("c", 4), "one": ("b", 4), "two": ("b", 8)}, {"one": ("b", 4)})

    def test_moved_steps(self):
        shop = day_shop()
        schedule = {"zed": ("c", 1), "one": ("b", 4), "two": ("c", 7)}
        self.assertEqual(moved_of(shop, self.PLAN, 0, schedule), ["two", "one", "zed"])
        self.assertEqual(moved_of(shop, self.PLAN, 1, schedule), ["two", "one"])
        self.assertEqual(moved_of(shop, self.PLAN, 4, schedule), ["two"])
        self.assertEqual(moved_of(shop, self.PLAN, 8, schedule), [])
        self.assertEqual(moved_of(shop, {"one": ("b", 4)}, 0, schedule), [])
        self.assertEqual(moved_of(shop, {}, 0, schedule), [])

    def test_names(self):
        self.assertEqual(str(inspect.signature(begun_of)), "(shop, plan, now)")
        self.assertEqual(str(inspect.signature(serves_day)), "(shop, plan, now, limit, schedule)")
        self.assertEqual(str(inspect.signature(moved_of)), "(shop, plan, now, schedule)")
        self.assertEqual(str(inspect.signature(planned_anew)), "(shop, plan, now, limit, most)")


class AnewCase(unittest.TestCase):
    def told(self, shop, plan, now, limit, most):
        """What is told of a day, looked at in every way."""
        before = (lists_of(shop), copied(plan))
        told = planned_anew(shop, plan, now, limit, most)
        self.assertEqual((lists_of(shop), plan), before)
        begun = begun_of(shop, plan, now)
        holds = {step: plan[step] for step in begun}
        kept = {step: plan[step] for step in plan if step in shop.step_names() and step not in begun}
        if told[0] == "none":
            self.shut(Facts(shop, limit, holds, None, 0, now), told[1], most)
            self.assertEqual(len(told), 2)
            return told
        schedule = told[1]
        if schedule is not None:
            self.assertTrue(serves_day(shop, plan, now, limit, schedule))
        if told[0] == "least":
            low = len(told[2])
            self.assertEqual(told[2], moved_of(shop, plan, now, schedule))
        else:
            low = told[2]
            self.assertEqual(told[0], "open")
            self.assertTrue(schedule is None or low < len(moved_of(shop, plan, now, schedule)))
        if low == 0:
            self.assertIsNone(told[3])
        else:
            self.shut(Facts(shop, limit, holds, kept, low - 1, now), told[3], most)
        return told

    def shut(self, facts, tree, most):
        self.assertTrue(is_shut_by(facts, tree))
        self.assertLessEqual(boths_in(tree), most)

    def looked_through(self, parts, plan, now, limit, most):
        """What is told, beside all schedules."""
        shop = shop_of(parts)
        told = self.told(shop, plan, now, limit, most)
        serving = [schedule for schedule in all_schedules(parts) if serves_day(shop, plan, now, limit, schedule)]
        least = min([len(moved_of(shop, plan, now, schedule)) for schedule in serving], default=None)
        if told[0] == "none":
            self.assertEqual(serving, [])
        elif told[0] == "least":
            self.assertEqual(len(told[2]), least)
        else:
            self.assertTrue(least is None or told[2] <= least)
        return told[0]


class AnewTest(AnewCase):
    def test_a_plan_that_serves_as_it_is(self):
        plan = {"zed": ("c", 3), "one": ("b", 3), "two": ("b", 7)}
        for now, most in ((0, 0), (0, 60), (3, 60), (4, 60), (20, 60)):
            self.assertEqual(self.told(day_shop(), plan, now, 20, most), ("least", plan, [], None))

    def test_a_plan_of_no_steps(self):
        told = self.told(day_shop(), {}, 2, 20, 60)
        self.assertEqual((told[0], told[2:]), ("least", ([], None)))
        told = self.told(day_shop(), {"stranger": ("b", 3)}, 2, 20, 60)
        self.assertEqual((told[0], told[2:]), ("least", ([], None)))

    def test_one_step_is_moved(self):
        plan = {"zed": ("c", 3), "one": ("b", 3), "two": ("b", 5)}
        told = self.told(day_shop(), plan, 0, 20, 60)
        self.assertEqual((told[0], len(told[2])), ("least", 1))
        told = self.told(day_shop(), plan, 4, 20, 60)
        self.assertEqual(told[2], ["two"])

    def test_a_plan_that_cannot_be_kept(self):
        plan = {"zed": ("b", 3), "one": ("c", 3), "two": ("x", 99)}
        self.assertEqual(self.told(day_shop(), plan, 0, 20, 60)[2], ["two", "one", "zed"])
        plan = {"zed": ("c", 19), "one": ("b", 16), "two": ("b", 1)}
        self.assertEqual(self.told(day_shop(), plan, 0, 20, 60)[2], ["zed"])

    def test_begun_steps_that_stand_in_one_anothers_way(self):
        plan = {"one": ("b", 3), "two": ("b", 5)}
        self.assertEqual(self.told(day_shop(), plan, 6, 20, 60)[0], "none")

    def test_limits(self):
        plan = {"zed": ("c", 3), "one": ("b", 3), "two": ("b", 7)}
        self.assertEqual(self.told(day_shop(), plan, 0, 10, 60)[2], [])
        self.assertEqual(self.told(day_shop(), plan, 0, 9, 60)[2], ["two"])
        self.assertEqual(self.told(day_shop(), plan, 0, 7, 60)[0], "least")
        self.assertEqual(self.told(day_shop(), plan, 0, 3, 60)[0], "none")
        self.assertEqual(self.told(day_shop(), plan, 0, 0, 60)[0], "none")
        self.assertEqual(self.told(day_shop(), plan, 4, 6, 60)[0], "none")

    def test_now_at_the_horizon(self):
        self.assertEqual(self.told(day_shop(), {"one": ("b", 0)}, 20, 20, 60)[0], "none")

    def test_open(self):
        shop = setup_shop(6, 0)
        plan = {name: ("b", 5 * place) for place, name in enumerate(names(6))}
        words = collections.Counter()
        for limit in (26, 29, 30, 31, 34):
            for most in (0, 1, 400):
                words[self.told(shop, plan, 0, limit, most)[0]] += 1
        self.assertEqual(set(words), {"open", "none", "least"}, words)

    def test_open_with_nothing_known(self):
        shop = setup_shop(6, 0)
        told = self.told(shop, {}, 0, 29, 0)
        self.assertEqual(told, ("open", None, 0, None))


class ManyTest(AnewCase):
    def chance_plan(self, parts, schedules, chance):
        """A plan that keeps the shop, one that nearly does, or one of chance."""
        if schedules and chance.random() < 0.6:
            plan = dict(chance.choice(schedules))
            if chance.random() < 0.7:
                step = chance.choice(list(plan))
                plan[step] = (plan[step][0], max(0, plan[step][1] + chance.choice([-1, 1, 2])))
            return plan
        plan = {"stranger": ("b", parts["horizon"])}
        for step, _, ways in parts["steps"]:
            if chance.random() < 0.8:
                plan[step] = (chance.choice(ways)[0], chance.randint(0, parts["horizon"]))
        return plan

    def walk(self, seeds, parts_of, mosts):
        words = collections.Counter()
        for seed in seeds:
            chance = random.Random(f"day {seed}")
            parts = parts_of(seed)
            plan = self.chance_plan(parts, all_schedules(parts), chance)
            now = min(parts["horizon"], chance.choice([0, 0, 1, 2, parts["horizon"]]))
            limit = max(0, parts["horizon"] - chance.choice([0, 0, 0, 1, 2, 9]))
            for most in mosts:
                words[most, self.looked_through(parts, plan, now, limit, most)] += 1
        return words

    def test_all_schedules_gone_through(self):
        words = self.walk(range(110), lambda seed: roomy_parts(seed, most_steps=3, horizon=6), (0, 1, 400))
        self.assertGreater(min(words[400, "least"], words[400, "none"]), 20, words)
        self.assertEqual(words[400, "open"], 0)

    def test_one_step_without_stocks(self):
        def parts_of(seed):
            parts = roomy_parts(seed, most_steps=2, most_ways=3, horizon=1 + seed % 16, stocks=False)
            step = parts["steps"][0][0]
            jobs = [row[:4] + ([step],) for row in parts["jobs"] if step in row[4]]
            return dict(parts, steps=parts["steps"][:1], links=[], jobs=jobs)

        words = self.walk(range(160), parts_of, (60,))
        self.assertEqual(words[60, "open"], 0)
        self.assertGreater(min(words[60, "least"], words[60, "none"]), 20)

    def test_at_most_two_steps_of_one_way(self):
        words = self.walk(range(200), lambda seed: roomy_parts(seed, most_steps=2, most_ways=1, horizon=1 + seed % 6), (60,))
        self.assertEqual(words[60, "open"], 0)
        self.assertGreater(min(words[60, "least"], words[60, "none"]), 40)

    def test_asked_again_the_same_is_told(self):
        for seed in range(30):
            parts = roomy_parts(seed, most_steps=3, horizon=6)
            shop = shop_of(parts)
            plan = self.chance_plan(parts, all_schedules(parts), random.Random(seed))
            for ask in (
                lambda: planned_anew(shop, plan, 0, 6, 400), lambda: begun_of(shop, plan, 6) if "stranger" not in plan else [],
            ):
                try:
                    told = ask()
                except Gone:
                    continue
                kept = copied(told)
                lists = [id(part) for part in lists_within(told)]
                self.assertEqual(len(lists), len(set(lists)))
                before = copied(plan)
                spoil_lists(told)
                self.assertEqual(plan, before)
                self.assertEqual(ask(), kept)

    def test_what_is_told_stays_when_the_plan_is_changed(self):
        plan = {"zed": ("c", 3), "one": ("b", 3), "two": ("b", 7)}
        told = planned_anew(day_shop(), plan, 0, 20, 60)
        plan.clear()
        self.assertEqual(told[1], {"zed": ("c", 3), "one": ("b", 3), "two": ("b", 7)})
        self.assertIsNone(first_broken(day_shop(), told[1]))


if __name__ == "__main__":
    unittest.main()
