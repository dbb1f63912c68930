"""[39]: the choices that part what stands against a likely plan, at their edges."""

import unittest

from shopbound.choices import side_of
from shopbound.conflicts import choice_for, is_undecided, likely_plan
from shopbound.facts import Facts
from shopbound.search import searched
from tests.samples import small_shop


class StockTest(unittest.TestCase):
    def asked(self, facts, choice, schedule):
        self.assertEqual(choice_for(facts, likely_plan(facts)), choice)
        self.assertEqual(searched(facts, 0)[1], schedule)

    def shop(self, stocks, jobs, **parts):
        steps = [("put", "k", [("b", 2)]), ("take", "k", [("c", 1)])]
        return small_shop(horizon=9, steps=steps, stocks=stocks, jobs=jobs, **parts)

    def test_a_put_that_may_just_wait_for_the_take(self):
        # the put ends at 3 at the latest, the take starts there at the soonest
        jobs = [("i", 3, 5, True, ["take"]), ("j", 0, 3, True, ["put"])]
        shop = self.shop([("s", 1, 1, [("take", 1)], [("put", 1)])], jobs)
        self.asked(Facts(shop, 9), ("start", "put", 1), {"put": ("b", 1), "take": ("c", 3)})

    def test_a_take_that_may_just_wait_for_the_put(self):
        jobs = [("i", 0, 3, True, ["take"])]
        shop = self.shop([("s", 0, 1, [("take", 1)], [("put", 1)])], jobs)
        self.asked(Facts(shop, 9), ("start", "take", 2), {"put": ("b", 0), "take": ("c", 2)})

    def test_the_next_of_several_puts(self):
        steps = [("far", "k", [("b", 5)]), ("near", "k", [("c", 3)]), ("take", "k", [("d", 1)])]
        benches = [("b", []), ("c", []), ("d", [])]
        stocks = [("s", 0, 2, [("take", 1)], [("far", 1), ("near", 1)])]
        facts = Facts(small_shop(steps=steps, benches=benches, stocks=stocks), 20)
        self.asked(facts, ("start", "take", 3), {"far": ("b", 0), "near": ("c", 0), "take": ("d", 3)})

    def test_the_next_of_several_takes(self):
        steps = [("far", "k", [("b", 1)]), ("near", "k", [("c", 1)]), ("put", "k", [("d", 2)])]
        benches = [("b", []), ("c", []), ("d", [])]
        stocks = [("s", 2, 2, [("far", 1), ("near", 1)], [("put", 1)])]
        jobs = [("i", 7, 20, True, ["far"]), ("j", 4, 20, True, ["near"])]
        facts = Facts(small_shop(steps=steps, benches=benches, stocks=stocks, jobs=jobs), 20)
        self.asked(facts, ("start", "put", 2), {"far": ("b", 7), "near": ("c", 4), "put": ("d", 2)})

    def test_benches_are_chosen_before_starts(self):
        steps = [("put", "k", [("b", 2), ("c", 3)]), ("take", "k", [("c", 1)])]
        stocks = [("s", 0, 1, [("take", 1)], [("put", 1)])]
        facts = Facts(small_shop(steps=steps, stocks=stocks), 9)
        self.assertEqual(choice_for(facts, likely_plan(facts)), ("on", "put", "b"))

    def test_kept_places_are_chosen_before_starts(self):
        shop = self.shop([("s", 0, 1, [("take", 1)], [("put", 1)])], [])
        facts = Facts(shop, 9, kept={"put": ("b", 5), "take": ("c", 1)}, most=1)
        self.assertEqual(choice_for(facts, likely_plan(facts))[0], "keep")


class PairTest(unittest.TestCase):
    def test_steps_of_one_bench(self):
        steps = [("one", "k", [("b", 3)]), ("two", "k", [("b", 2)])]
        facts = Facts(small_shop(steps=steps), 9)
        self.assertEqual(choice_for(facts, likely_plan(facts)), ("order", "one", "two"))
        facts = Facts(small_shop(steps=steps, jobs=[("j", 1, 20, True, ["one"])]), 9)
        self.assertEqual(choice_for(facts, likely_plan(facts)), ("order", "two", "one"))

    def test_steps_of_several_benches(self):
        steps = [("one", "k", [("b", 3)]), ("two", "k", [("c", 4), ("b", 2)])]
        facts = Facts(small_shop(steps=steps), 9)
        self.assertEqual(likely_plan(facts), {"one": ("b", 0), "two": ("b", 0)})
        self.assertEqual(choice_for(facts, likely_plan(facts)), ("on", "two", "b"))

    def test_steps_of_one_job_on_several_benches(self):
        steps = [("one", "k", [("b", 3), ("c", 3)]), ("two", "k", [("c", 4), ("b", 5)])]
        facts = Facts(small_shop(steps=steps, jobs=[("j", 0, 20, False, ["one", "two"])]), 20)
        self.assertEqual(choice_for(facts, likely_plan(facts)), ("order", "one", "two"))

    def test_a_plan_that_goes(self):
        facts = Facts(small_shop(), 9)
        self.assertIsNone(choice_for(facts, likely_plan(facts)))


class KeptTest(unittest.TestCase):
    def shop(self, **parts):
        steps = [("one", "k", [("b", 3)]), ("two", "k", [("c", 4), ("b", 2)])]
        return small_shop(steps=steps, **parts)

    def test_undecided_steps(self):
        facts = Facts(self.shop(), 20, kept={"one": ("b", 5), "two": ("c", 25)}, most=1)
        self.assertTrue(is_undecided(facts, "one"))
        self.assertFalse(is_undecided(facts, "two"))
        self.assertFalse(is_undecided(side_of(facts, ("keep", "one"), 0), "one"))
        self.assertFalse(is_undecided(side_of(facts, ("keep", "one"), 1), "one"))
        self.assertFalse(is_undecided(Facts(self.shop(), 20), "one"))
        facts.set_window("two", 25, 25)
        self.assertTrue(is_undecided(facts, "two"))

    def test_an_order_against_kept_places(self):
        # the kept places keep the shop, but not the order that was chosen
        shop = self.shop(jobs=[("j", 0, 20, False, ["one", "two"])])
        kept = {"one": ("b", 6), "two": ("c", 2)}
        facts = Facts(shop, 20, kept=kept, most=1)
        self.assertEqual(searched(facts, 400)[1], kept)
        facts = side_of(facts, ("order", "one", "two"), 0)
        word, schedule, _ = searched(facts, 400)
        self.assertEqual(word, "found")
        self.assertTrue(facts.goes(schedule))
        self.assertEqual(choice_for(facts, kept)[0], "keep")
        none = side_of(Facts(shop, 20, kept=kept, most=0), ("order", "one", "two"), 0)
        self.assertEqual(searched(none, 400)[0], "shut")

    def test_too_many_are_moved(self):
        benches = [("b", [(5, 6)]), ("c", [])]
        facts = Facts(self.shop(benches=benches), 20, kept={"one": ("b", 4), "two": ("c", 3)}, most=0)
        self.assertEqual(choice_for(facts, likely_plan(facts)), ("keep", "one"))
        self.assertEqual(searched(facts, 0)[0], "shut")


if __name__ == "__main__":
    unittest.main()
