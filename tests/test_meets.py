"""[24]: one step ahead of another, gaps, and steps that meet."""

import itertools
import unittest

from shopbound.facts import Facts
from tests.samples import small_shop
from tests.slow import chance_facts, job_of, slow_gap, slow_known_gap

STEPS = ("one", "two", "zed", "lone")


def mixed_shop(**parts):
    """Steps of an ordered job, one linked, and one with a choice."""
    new = {
        "steps": [
            ("one", "k", [("b", 3)]),
            ("two", "l", [("c", 4), ("b", 2)]),
            ("zed", "l", [("b", 6)]),
            ("lone", "k", [("c", 1), ("b", 1)]),
        ],
    }
    new.update(parts)
    return small_shop(**new)


def pairs_where(told):
    """The pairs, of a step and itself too, of which something is told as True."""
    return [(one, other) for one in STEPS for other in STEPS if told(one, other)]


class AheadTest(unittest.TestCase):
    def test_nothing_known(self):
        self.assertEqual(pairs_where(Facts(mixed_shop(), 20).is_ahead), [])
        jobs = [("j", 0, 20, False, ["one", "two", "lone"])]
        self.assertEqual(pairs_where(Facts(mixed_shop(jobs=jobs), 20).is_ahead), [])

    def test_known_orders(self):
        jobs = [("j", 0, 20, True, ["lone", "one", "two"])]
        facts = Facts(mixed_shop(jobs=jobs, links=[("zed", "one", 0), ("two", "lone", 1)]), 20)
        asked = [("one", "two"), ("two", "lone"), ("zed", "one"), ("lone", "one"), ("lone", "two")]
        self.assertEqual(pairs_where(facts.is_ahead), asked)

    def test_known_orders_are_not_drawn_together(self):
        facts = Facts(mixed_shop(links=[("one", "two", 0), ("two", "zed", 0)]), 20)
        self.assertFalse(facts.is_ahead("one", "zed"))

    def test_orders_put(self):
        facts = Facts(mixed_shop(links=[("zed", "one", 0)]), 20)
        facts.put_order("two", "lone")
        self.assertEqual(pairs_where(facts.is_ahead), [("two", "lone"), ("zed", "one")])
        facts.put_order("one", "zed")
        self.assertEqual(pairs_where(facts.is_ahead), [("one", "zed"), ("two", "lone"), ("zed", "one")])


class GapTest(unittest.TestCase):
    def test_known_gaps(self):
        jobs = [("j", 0, 20, True, ["lone", "one"])]
        facts = Facts(mixed_shop(jobs=jobs, links=[("zed", "two", 5), ("lone", "one", 3)]), 20)
        gaps = {pair: facts.gap_of(*pair) for pair in itertools.product(STEPS, STEPS) if facts.gap_of(*pair) > 0}
        self.assertEqual(gaps, {("zed", "two"): 5, ("lone", "one"): 3})

    def test_an_order_put_has_no_gap_of_its_own(self):
        facts = Facts(mixed_shop(), 20)
        facts.put_order("two", "zed")
        self.assertEqual(facts.gap_of("two", "zed"), 0)

    def test_a_setup_where_both_have_one_open_bench(self):
        setups = [("b", "k", "l", 4), ("b", "l", "k", 7), ("c", "k", "l", 9), ("b", "l", "l", 2)]
        facts = Facts(mixed_shop(setups=setups), 20)
        self.assertEqual(facts.gap_of("one", "zed"), 4)
        self.assertEqual(facts.gap_of("zed", "one"), 7)
        self.assertEqual(facts.gap_of("one", "two"), 0)
        self.assertEqual(facts.gap_of("two", "zed"), 0)
        facts.set_open("two", ["b"])
        self.assertEqual(facts.gap_of("one", "two"), 4)
        self.assertEqual(facts.gap_of("two", "zed"), 2)
        self.assertEqual(facts.gap_of("zed", "two"), 2)

    def test_one_open_bench_each_but_unlike(self):
        setups = [("b", "l", "k", 7), ("c", "l", "k", 9)]
        facts = Facts(mixed_shop(setups=setups), 20)
        facts.set_open("lone", ["c"])
        self.assertEqual(facts.gap_of("zed", "lone"), 0)
        facts.set_open("two", ["c"])
        self.assertEqual(facts.gap_of("two", "lone"), 9)
        self.assertEqual(facts.gap_of("lone", "two"), 0)

    def test_the_same_two_benches_open_to_both(self):
        facts = Facts(mixed_shop(setups=[("b", "l", "k", 7), ("c", "l", "k", 9)]), 20)
        self.assertEqual(facts.gap_of("two", "lone"), 0)

    def test_no_bench_open(self):
        facts = Facts(mixed_shop(setups=[("b", "l", "k", 7)], links=[("two", "lone", 2)]), 20)
        facts.set_open("two", [])
        self.assertEqual(facts.gap_of("two", "lone"), 2)
        facts.set_open("lone", [])
        self.assertEqual(facts.gap_of("two", "lone"), 2)
        self.assertFalse(facts.do_meet("two", "lone"))

    def test_the_greater_of_both(self):
        for setup, gap, asked in ((4, 3, 4), (4, 4, 4), (4, 5, 5), (4, 0, 4)):
            facts = Facts(mixed_shop(setups=[("b", "k", "l", setup)], links=[("one", "zed", gap)]), 20)
            self.assertEqual(facts.gap_of("one", "zed"), asked)

    def test_a_held_step_has_one_open_bench(self):
        shop = mixed_shop(setups=[("b", "k", "l", 4)])
        self.assertEqual(Facts(shop, 20, {"two": ("b", 9)}).gap_of("one", "two"), 4)
        self.assertEqual(Facts(shop, 20, {"two": ("c", 9)}).gap_of("one", "two"), 0)


class MeetTest(unittest.TestCase):
    def test_one_job_or_one_bench_or_neither(self):
        facts = Facts(mixed_shop(jobs=[("j", 0, 20, False, ["lone", "one"])]), 20)
        asked = [("one", "zed"), ("one", "lone"), ("zed", "one"), ("lone", "one")]
        self.assertEqual(pairs_where(facts.do_meet), asked)

    def test_an_ordered_job(self):
        facts = Facts(mixed_shop(jobs=[("j", 0, 20, True, ["lone", "two"]), ("i", 0, 20, True, ["zed"])]), 20)
        self.assertEqual(pairs_where(facts.do_meet), [("one", "zed"), ("two", "lone"), ("zed", "one"), ("lone", "two")])

    def test_one_open_bench_left(self):
        facts = Facts(mixed_shop(), 20)
        self.assertFalse(facts.do_meet("one", "two"))
        facts.set_open("two", ["b"])
        self.assertTrue(facts.do_meet("one", "two"))
        self.assertTrue(facts.do_meet("two", "zed"))
        facts.set_open("two", ["c"])
        self.assertFalse(facts.do_meet("one", "two"))
        facts.set_open("lone", ["c"])
        self.assertTrue(facts.do_meet("lone", "two"))

    def test_links_and_orders_make_none_meet(self):
        facts = Facts(mixed_shop(links=[("one", "two", 3)]), 20)
        facts.put_order("zed", "lone")
        self.assertFalse(facts.do_meet("one", "two"))
        self.assertFalse(facts.do_meet("zed", "lone"))

    def test_steps_of_no_job_are_not_of_one(self):
        facts = Facts(mixed_shop(), 20)
        self.assertFalse(facts.do_meet("two", "lone"))

    def test_a_step_and_itself(self):
        facts = Facts(mixed_shop(jobs=[("j", 0, 20, True, ["lone", "one"])]), 20)
        for step in STEPS:
            self.assertFalse(facts.do_meet(step, step))
            self.assertFalse(facts.is_ahead(step, step))


class BesideTest(unittest.TestCase):
    def test_beside_the_words_over_many_small_shops(self):
        ahead = 0
        meet = 0
        for seed in range(150):
            for turn in range(3):
                parts, facts = chance_facts(seed, turn)
                for one, other in itertools.permutations([row[0] for row in parts["steps"]], 2):
                    known = slow_known_gap(parts, one, other) is not None or (one, other) in facts.orders()
                    self.assertEqual(facts.is_ahead(one, other), known)
                    self.assertEqual(facts.gap_of(one, other), slow_gap(parts, facts, one, other))
                    job = job_of(parts, one)
                    same = len(facts.open_to(one)) == 1 and facts.open_to(one) == facts.open_to(other)
                    self.assertEqual(facts.do_meet(one, other), (job is not None and other in job[4]) or same)
                    ahead += known
                    meet += facts.do_meet(one, other)
        self.assertGreater(min(ahead, meet), 300)


if __name__ == "__main__":
    unittest.main()
