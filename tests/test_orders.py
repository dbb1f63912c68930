"""[18] to [20]: pairs that meet for sure, and known orders."""

import inspect
import unittest

from shopbound.orders import known_orders, sure_pairs
from tests.samples import copied, good_parts, lists_of, names, shop_of, small_shop, spoil_lists


def free_steps(*steps):
    """Steps on a bench of their own each, so that only jobs and links make them meet."""
    return {
        "benches": [("bench" + name[:3], []) for name in steps],
        "steps": [(name, "k", [("bench" + name[:3], 1)]) for name in steps],
    }


class PairsTest(unittest.TestCase):
    def test_no_pairs(self):
        self.assertEqual(sure_pairs(small_shop()), [])
        self.assertEqual(sure_pairs(small_shop(**free_steps("one", "two", "zed"))), [])

    def test_steps_of_one_job_ordered_or_not(self):
        for ordered in (True, False):
            jobs = [("j", 0, 20, ordered, ["zed", "one"])]
            shop = small_shop(jobs=jobs, **free_steps("one", "two", "zed"))
            self.assertEqual(sure_pairs(shop), [("one", "zed")])

    def test_steps_of_two_jobs(self):
        jobs = [("j", 0, 20, True, ["zed", "one"]), ("i", 0, 20, False, ["abc", "two"])]
        shop = small_shop(jobs=jobs, **free_steps("two", "zed", "one", "abc"))
        self.assertEqual(sure_pairs(shop), [("two", "abc"), ("zed", "one")])

    def test_steps_with_one_way_each_on_one_bench(self):
        steps = [("one", "k", [("b", 1)]), ("two", "l", [("b", 2)]), ("zed", "k", [("c", 1)])]
        self.assertEqual(sure_pairs(small_shop(steps=steps)), [("one", "two")])

    def test_a_step_with_two_ways_meets_none_by_its_bench(self):
        two_ways = [("b", 1), ("c", 1)]
        for ways in (two_ways, two_ways[::-1]):
            steps = [("one", "k", [("b", 1)]), ("two", "k", ways), ("zed", "k", ways)]
            self.assertEqual(sure_pairs(small_shop(steps=steps)), [])
            self.assertEqual(sure_pairs(small_shop(steps=steps[::-1])), [])
            jobs = [("j", 0, 20, False, ["two", "one"])]
            self.assertEqual(sure_pairs(small_shop(steps=steps, jobs=jobs)), [("one", "two")])

    def test_a_pair_that_is_both_stands_once(self):
        steps = [("one", "k", [("b", 1)]), ("two", "k", [("b", 1)])]
        jobs = [("j", 0, 20, True, ["two", "one"])]
        self.assertEqual(sure_pairs(small_shop(steps=steps, jobs=jobs)), [("one", "two")])

    def test_sorted_as_the_steps_stand(self):
        steps = [(name, "k", [("b", 1)]) for name in ("zed", "two", "one", "abc")]
        self.assertEqual(sure_pairs(small_shop(steps=steps)), [
            ("zed", "two"), ("zed", "one"), ("zed", "abc"), ("two", "one"), ("two", "abc"), ("one", "abc"),
        ])

    def test_links_make_none_meet(self):
        shop = small_shop(links=[("one", "two", 1)], **free_steps("one", "two"))
        self.assertEqual(sure_pairs(shop), [])

    def test_the_most_steps(self):
        steps = [(name, "k", [("b", 1)]) for name in names(40)]
        self.assertEqual(len(sure_pairs(small_shop(steps=steps))), 780)

    def test_mixed(self):
        self.assertEqual(sure_pairs(shop_of(good_parts())), [("cut", "glue")])


class OrdersTest(unittest.TestCase):
    def test_no_orders(self):
        self.assertEqual(known_orders(small_shop()), [])
        jobs = [("j", 0, 20, False, ["one", "two"])]
        self.assertEqual(known_orders(small_shop(jobs=jobs, **free_steps("one", "two"))), [])

    def test_links(self):
        links = [("zed", "one", 4), ("one", "two", 0)]
        shop = small_shop(links=links, **free_steps("one", "two", "zed"))
        self.assertEqual(known_orders(shop), [("one", "two", 0), ("zed", "one", 4)])

    def test_every_pair_of_an_ordered_job(self):
        jobs = [("j", 0, 20, True, ["zed", "one", "two"])]
        shop = small_shop(jobs=jobs, **free_steps("one", "two", "zed", "abc"))
        self.assertEqual(known_orders(shop), [("one", "two", 0), ("zed", "one", 0), ("zed", "two", 0)])

    def test_the_greatest_gap_for_one_pair(self):
        jobs = [("j", 0, 20, True, ["one", "two"])]
        for gap in (0, 1, 7):
            shop = small_shop(jobs=jobs, links=[("one", "two", gap)], **free_steps("one", "two"))
            self.assertEqual(known_orders(shop), [("one", "two", gap)])

    def test_the_other_way_round_is_another_pair(self):
        jobs = [("j", 0, 20, True, ["one", "two"])]
        shop = small_shop(jobs=jobs, links=[("two", "one", 3)], **free_steps("one", "two"))
        self.assertEqual(known_orders(shop), [("one", "two", 0), ("two", "one", 3)])

    def test_sorted_by_places_of_one_then_other(self):
        links = [("abc", "zed", 1), ("zed", "abc", 2), ("one", "two", 3), ("one", "zed", 4), ("zed", "two", 5), ("abc", "one", 6)]
        shop = small_shop(links=links, **free_steps("zed", "two", "one", "abc"))
        self.assertEqual(known_orders(shop), [
            ("zed", "two", 5), ("zed", "abc", 2), ("one", "zed", 4), ("one", "two", 3), ("abc", "zed", 1), ("abc", "one", 6),
        ])

    def test_mixed(self):
        self.assertEqual(known_orders(shop_of(good_parts())), [
            ("cut", "bake", 0), ("cut", "glue", 0), ("bake", "cut", 5), ("saw", "glue", 100),
        ])


class OwnTest(unittest.TestCase):
    def test_told_lists_are_new_and_the_shop_is_as_it_was(self):
        shop = shop_of(good_parts())
        for told in (sure_pairs, known_orders):
            early = told(shop)
            kept = copied(early)
            spoil_lists(told(shop))
            self.assertEqual(early, kept)
            self.assertEqual(told(shop), kept)
        self.assertEqual(lists_of(shop), good_parts())

    def test_handed_lists_changed_afterwards_change_nothing(self):
        parts = good_parts()
        shop = shop_of(parts)
        spoil_lists(parts)
        self.assertEqual(sure_pairs(shop), sure_pairs(shop_of(good_parts())))
        self.assertEqual(known_orders(shop), known_orders(shop_of(good_parts())))

    def test_interface(self):
        for told in (sure_pairs, known_orders):
            self.assertEqual(list(inspect.signature(told).parameters), ["shop"])
            self.assertIsInstance(told(small_shop()), list)
        for row in sure_pairs(shop_of(good_parts())) + known_orders(shop_of(good_parts())):
            self.assertIsInstance(row, tuple)


if __name__ == "__main__":
    unittest.main()
