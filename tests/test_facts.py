"""[2], [21], [22]: facts as they are at first, what they tell, and what changes them."""

import inspect
import random
import unittest

from shopbound.facts import Facts
from tests.samples import chance_parts, copied, good_parts, lists_of, shop_of, small_shop, spoil_lists
from tests.slow import chance_facts, chance_kept, chance_places, job_of, state_of, ways_of


def two_jobs(**parts):
    """Steps in an ordered job, in another one, and in none."""
    new = {
        "horizon": 20,
        "steps": [
            ("one", "k", [("b", 3), ("c", 5)]),
            ("two", "k", [("c", 4), ("b", 2)]),
            ("zed", "l", [("b", 6)]),
            ("lone", "l", [("c", 1)]),
        ],
        "jobs": [("j", 4, 15, True, ["two", "one"]), ("i", 0, 20, False, ["zed"])],
    }
    new.update(parts)
    return small_shop(**new)


def windows(facts):
    """From each step to its first and last."""
    return {step: (facts.first_of(step), facts.last_of(step)) for step in facts.shop().step_names()}


def marks(facts):
    """From each step to its end mark."""
    return {step: facts.end_mark(step) for step in facts.shop().step_names()}


def open_benches(facts):
    """From each step to its open benches."""
    return {step: facts.open_to(step) for step in facts.shop().step_names()}


class FirstTest(unittest.TestCase):
    def test_all_ways_are_open_in_their_order(self):
        benches = {"one": ["b", "c"], "two": ["c", "b"], "zed": ["b"], "lone": ["c"]}
        self.assertEqual(open_benches(Facts(two_jobs(), 20)), benches)
        self.assertEqual(open_benches(Facts(two_jobs(), 0)), benches)

    def test_no_orders_no_notes(self):
        facts = Facts(two_jobs(links=[("one", "zed", 2)]), 20, {"zed": ("b", 1)}, {"one": ("b", 1)}, 1, 3)
        self.assertEqual(facts.orders(), [])
        self.assertEqual(facts.noted(), [])

    def test_windows_at_the_horizon(self):
        asked = {"one": (4, 12), "two": (4, 13), "zed": (0, 14), "lone": (0, 19)}
        self.assertEqual(windows(Facts(two_jobs(), 20)), asked)

    def test_end_marks_by_limits(self):
        shop = two_jobs()
        for limit, of_job in ((20, 15), (16, 15), (15, 15), (14, 14), (1, 1), (0, 0)):
            asked = {"one": of_job, "two": of_job, "zed": limit, "lone": limit}
            self.assertEqual(marks(Facts(shop, limit)), asked)

    def test_the_horizon_bounds_the_end_mark(self):
        self.assertEqual(marks(Facts(two_jobs(), 21)), marks(Facts(two_jobs(), 20)))
        self.assertEqual(windows(Facts(two_jobs(), 23)), windows(Facts(two_jobs(), 20)))

    def test_lasts_by_limits_perhaps_below_nought(self):
        self.assertEqual(windows(Facts(two_jobs(), 14)), {"one": (4, 11), "two": (4, 12), "zed": (0, 8), "lone": (0, 13)})
        self.assertEqual(windows(Facts(two_jobs(), 2)), {"one": (4, -1), "two": (4, 0), "zed": (0, -4), "lone": (0, 1)})
        self.assertEqual(windows(Facts(two_jobs(), 0)), {"one": (4, -3), "two": (4, -2), "zed": (0, -6), "lone": (0, -1)})

    def test_a_due_moment_of_nought(self):
        facts = Facts(two_jobs(jobs=[("j", 3, 0, False, ["one"])]), 20)
        self.assertEqual((facts.end_mark("one"), facts.first_of("one"), facts.last_of("one")), (0, 3, -3))

    def test_now_and_the_early_moment(self):
        for now, of_job in ((0, 4), (3, 4), (4, 4), (5, 5), (20, 20)):
            facts = Facts(two_jobs(), 20, now=now)
            self.assertEqual([facts.first_of(step) for step in ("one", "two", "zed", "lone")], [of_job, of_job, now, now])
            self.assertEqual([facts.last_of(step) for step in ("one", "two", "zed", "lone")], [12, 13, 14, 19])

    def test_held_steps(self):
        facts = Facts(two_jobs(), 20, {"one": ("c", 7), "lone": ("c", 2)})
        self.assertEqual(open_benches(facts), {"one": ["c"], "two": ["c", "b"], "zed": ["b"], "lone": ["c"]})
        self.assertEqual(windows(facts), {"one": (7, 7), "two": (4, 13), "zed": (0, 14), "lone": (2, 2)})
        self.assertEqual(marks(facts), marks(Facts(two_jobs(), 20)))

    def test_held_steps_whatever_now_is(self):
        for now in (0, 6, 7, 8, 20):
            facts = Facts(two_jobs(), 20, {"one": ("c", 7), "lone": ("c", 2)}, now=now)
            self.assertEqual(windows(facts)["one"], (7, 7))
            self.assertEqual(windows(facts)["lone"], (2, 2))
            self.assertEqual(facts.first_of("zed"), now)

    def test_held_steps_and_the_early_moment(self):
        for start, first in ((0, 4), (3, 4), (4, 4), (5, 5)):
            facts = Facts(two_jobs(), 20, {"one": ("b", start)}, now=9)
            self.assertEqual(windows(facts)["one"], (first, start))

    def test_held_steps_at_the_edges(self):
        facts = Facts(two_jobs(), 2, {"zed": ("b", 20), "lone": ("c", 0)})
        self.assertEqual(windows(facts)["zed"], (20, 20))
        self.assertEqual(windows(facts)["lone"], (0, 0))
        self.assertEqual(facts.end_mark("zed"), 2)

    def test_no_held_step(self):
        self.assertEqual(state_of(Facts(two_jobs(), 20, {})), state_of(Facts(two_jobs(), 20)))

    def test_as_the_words_say_over_many_shops(self):
        for seed in range(200):
            parts = chance_parts(seed)
            chance = random.Random(seed)
            limit = chance.randint(0, parts["horizon"])
            now = chance.randint(0, parts["horizon"])
            holds = chance_places(parts, chance, 0.3)
            facts = Facts(shop_of(parts), limit, holds, None, 0, now)
            for step, _, ways in parts["steps"]:
                _, early, due = (job_of(parts, step) or ("", 0, parts["horizon"]))[:3]
                mark = sorted([limit, due, parts["horizon"]])[0]
                asked = ([bench for bench, _ in ways], max(now, early), mark - min(ways_of(parts, step).values()))
                if step in holds:
                    asked = ([holds[step][0]], max(early, holds[step][1]), holds[step][1])
                self.assertEqual((facts.open_to(step), facts.first_of(step), facts.last_of(step)), asked)
                self.assertEqual(facts.end_mark(step), mark)


class KeptTest(unittest.TestCase):
    def test_no_kept_plan(self):
        facts = Facts(two_jobs(), 20)
        self.assertIs(facts.has_kept(), False)
        self.assertEqual(facts.kept_names(), [])
        self.assertIsNone(facts.kept_place("one"))
        self.assertEqual(facts.most_moved(), 0)

    def test_a_kept_plan_of_no_step(self):
        facts = Facts(two_jobs(), 20, None, {}, 3)
        self.assertIs(facts.has_kept(), True)
        self.assertEqual(facts.kept_names(), [])
        self.assertIsNone(facts.kept_place("one"))
        self.assertEqual(facts.most_moved(), 3)

    def test_a_kept_plan_of_some_steps(self):
        kept = {"zed": ("b", 3), "lone": ("mill", -4), "one": ("", 10 ** 30)}
        facts = Facts(two_jobs(), 20, kept=kept, most=2)
        self.assertIs(facts.has_kept(), True)
        self.assertEqual(facts.kept_names(), ["lone", "one", "zed"])
        for step in kept:
            self.assertEqual(facts.kept_place(step), kept[step])
        self.assertIsNone(facts.kept_place("two"))
        self.assertEqual(facts.most_moved(), 2)

    def test_a_kept_plan_changes_nothing_else(self):
        plain = Facts(two_jobs(), 18, {"one": ("c", 7)}, now=2)
        facts = Facts(two_jobs(), 18, {"one": ("c", 7)}, {"one": ("b", 0), "zed": ("b", 4)}, 1, 2)
        self.assertEqual(state_of(facts)["steps"], state_of(plain)["steps"])


class ChangingTest(unittest.TestCase):
    def changed_alone(self, facts, steps, change):
        """Does a change, and asks that only these steps and nothing else became other."""
        before = state_of(facts)
        self.assertIsNone(change(facts))
        after = state_of(facts)
        for step in before["steps"]:
            if step not in steps:
                self.assertEqual(after["steps"][step], before["steps"][step])
        return after

    def test_set_window(self):
        for first, last in ((0, 0), (5, 9), (9, 5), (-2, -7), (4, 10 ** 6)):
            facts = Facts(two_jobs(), 20)
            after = self.changed_alone(facts, ["two"], lambda facts: facts.set_window("two", first, last))
            self.assertEqual(after["steps"]["two"], (["c", "b"], first, last, 15))
            self.assertEqual((after["orders"], after["noted"]), ([], []))

    def test_set_open(self):
        for benches, asked in ((["c"], ["c"]), (["b"], ["b"]), ([], []), (["b", "c"], ["c", "b"]), (["c", "b"], ["c", "b"])):
            facts = Facts(two_jobs(), 20)
            after = self.changed_alone(facts, ["two"], lambda facts: facts.set_open("two", benches))
            self.assertEqual(after["steps"]["two"], (asked, 4, 13, 15))

    def test_put_order(self):
        facts = Facts(two_jobs(), 20)
        for one, other, asked in (
            ("zed", "one", [("zed", "one")]),
            ("one", "zed", [("zed", "one"), ("one", "zed")]),
            ("zed", "one", [("zed", "one"), ("one", "zed")]),
            ("two", "one", [("zed", "one"), ("one", "zed"), ("two", "one")]),
            ("one", "zed", [("zed", "one"), ("one", "zed"), ("two", "one")]),
        ):
            after = self.changed_alone(facts, [], lambda facts: facts.put_order(one, other))
            self.assertEqual(after["orders"], asked)

    def test_put_note(self):
        facts = Facts(two_jobs(), 20, None, {"one": ("b", 1), "zed": ("b", 4), "lone": ("c", 1)}, 1)
        for step, asked in (
            ("zed", ["zed"]),
            ("lone", ["zed", "lone"]),
            ("zed", ["zed", "lone"]),
            ("one", ["zed", "lone", "one"]),
        ):
            after = self.changed_alone(facts, [], lambda facts: facts.put_note(step))
            self.assertEqual(after["noted"], asked)


class OwnTest(unittest.TestCase):
    def full(self):
        facts = Facts(two_jobs(), 18, {"one": ("c", 7)}, {"one": ("b", 0), "zed": ("b", 4)}, 1, 2)
        facts.put_order("zed", "one")
        facts.put_note("zed")
        return facts

    def test_what_is_told_is_new(self):
        facts = self.full()
        before = state_of(facts)
        told = [facts.open_to("one"), facts.orders(), facts.noted(), facts.kept_names(), facts.open_to("two")]
        early = copied(told)
        for lists in ([facts.open_to("one"), facts.orders(), facts.noted(), facts.kept_names()], lists_of(facts.shop())):
            spoil_lists(lists)
        self.assertEqual(told, early)
        self.assertEqual(state_of(facts), before)
        facts.set_open("one", [])
        facts.set_open("two", ["b"])
        facts.put_order("two", "zed")
        facts.put_note("one")
        self.assertEqual(told, early)

    def test_what_is_handed_in_stays_and_is_not_held(self):
        parts = good_parts()
        shop = shop_of(parts)
        holds = {"bake": ("saw", 5), "cut": ("saw", 1)}
        kept = {"glue": ("saw", 3), "cut": ("rack", -1)}
        early = copied((holds, kept))
        facts = Facts(shop, 90, holds, kept, 1, 2)
        before = state_of(facts)
        self.assertEqual((holds, kept), early)
        self.assertEqual(lists_of(shop), good_parts())
        spoil_lists(parts)
        spoil_lists([holds, kept])
        holds["bake"] = ("oven", 9)
        kept.clear()
        self.assertEqual(state_of(facts), before)

    def test_a_list_of_open_benches_is_not_held(self):
        facts = Facts(two_jobs(), 20)
        benches = ["b"]
        facts.set_open("one", benches)
        benches.append("c")
        self.assertEqual(facts.open_to("one"), ["b"])
        self.assertEqual(benches, ["b", "c"])
        told = facts.open_to("two")
        facts.set_open("two", told)
        told.pop()
        self.assertEqual(facts.open_to("two"), ["c", "b"])

    def test_facts_of_one_shop_are_apart(self):
        shop = two_jobs()
        one = Facts(shop, 20)
        other = Facts(shop, 20)
        before = state_of(other)
        self.change_all(one)
        self.assertEqual(state_of(other), before)

    def change_all(self, facts):
        facts.set_window("one", 1, 2)
        facts.set_open("two", ["b"])
        facts.put_order("lone", "zed")
        facts.put_note("one")

    def test_twins_are_alike(self):
        for facts in (Facts(two_jobs(), 20), self.full(), self.full().twin()):
            twin = facts.twin()
            self.assertIsInstance(twin, Facts)
            self.assertEqual(state_of(twin), state_of(facts))

    def test_twins_changed_apart(self):
        facts = self.full()
        before = state_of(facts)
        twin = facts.twin()
        second = twin.twin()
        self.change_all(twin)
        changed = state_of(twin)
        self.assertEqual(state_of(facts), before)
        self.assertEqual(state_of(second), before)
        self.assertNotEqual(changed, before)
        facts.set_window("lone", 0, 0)
        facts.set_open("zed", [])
        facts.put_order("one", "two")
        facts.put_note("one")
        self.assertEqual(state_of(twin), changed)
        self.assertEqual(state_of(second), before)

    def test_twins_answer_alike_over_many_shops(self):
        for seed in range(40):
            _, facts = chance_facts(seed, 0)
            twin = facts.twin()
            self.assertEqual(state_of(twin), state_of(facts))
            for step in facts.shop().step_names():
                self.assertEqual(twin.least_start(step), facts.least_start(step))
                self.assertEqual(twin.greatest_start(step), facts.greatest_start(step))

    def test_asking_changes_nothing(self):
        for seed in range(40):
            parts, facts = chance_facts(seed, 1)
            before = state_of(facts)
            steps = facts.shop().step_names()
            for step in steps:
                for told in (facts.least_of, facts.greatest_of, facts.least_start, facts.greatest_start):
                    told(step)
                facts.can_start(step, parts["steps"][0][2][0][0], 0)
            for one in steps:
                for other in steps:
                    for told in (facts.is_ahead, facts.gap_of, facts.do_meet):
                        told(one, other)
            schedule = {step: (facts.shop().ways_of(step)[0][0], 0) for step in steps}
            kept = copied(schedule)
            facts.goes(schedule)
            facts.twin()
            self.assertEqual(schedule, kept)
            self.assertEqual(state_of(facts), before)


class InterfaceTest(unittest.TestCase):
    def test_how_facts_are_made(self):
        asked = inspect.signature(Facts).parameters
        self.assertEqual(list(asked), ["shop", "limit", "holds", "kept", "most", "now"])
        self.assertEqual([asked[name].default for name in ("holds", "kept", "most", "now")], [None, None, 0, 0])

    def test_methods(self):
        asked = {
            "first_of": ["step"], "last_of": ["step"], "end_mark": ["step"], "open_to": ["step"], "orders": [],
            "noted": [], "least_of": ["step"], "greatest_of": ["step"], "can_start": ["step", "bench", "start"],
            "least_start": ["step"], "greatest_start": ["step"], "is_ahead": ["one", "other"],
            "do_meet": ["one", "other"], "gap_of": ["one", "other"], "goes": ["schedule"], "shop": [], "twin": [],
            "has_kept": [], "kept_names": [], "kept_place": ["step"], "most_moved": [],
            "set_window": ["step", "first", "last"], "set_open": ["step", "benches"], "put_order": ["one", "other"],
            "put_note": ["step"],
        }
        facts = Facts(two_jobs(), 20)
        for told in (facts, facts.twin()):
            for name, parameters in asked.items():
                self.assertEqual(list(inspect.signature(getattr(told, name)).parameters), parameters, name)

    def test_kinds(self):
        shop = two_jobs()
        facts = Facts(shop, 20, None, chance_kept(lists_of(shop), random.Random(3)), 1)
        self.assertEqual(lists_of(facts.shop()), lists_of(shop))
        for told in (facts.open_to("one"), facts.orders(), facts.noted(), facts.kept_names()):
            self.assertIs(type(told), list)
        for told in (facts.can_start("one", "b", 4), facts.is_ahead("one", "two"), facts.do_meet("one", "two")):
            self.assertIs(type(told), bool)


if __name__ == "__main__":
    unittest.main()
