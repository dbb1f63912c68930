"""[2], [3], [39]: facts searched for a schedule that goes with them, or a tree that shuts them."""

import collections
import inspect
import random
import unittest

from shopbound.checker import is_shut_by
from shopbound.facts import Facts
from shopbound.search import searched
from shopbound.trees import look_at_tree
from tests.roomy import all_schedules, boths_in, lists_within, roomy_facts, roomy_parts, setup_shop
from tests.samples import copied, names, shop_of, small_shop, spoil_lists
from tests.slow import chance_facts, state_of


class SearchCase(unittest.TestCase):
    def told(self, facts, most):
        """What is told of facts, looked at in every way."""
        before = state_of(facts)
        told = searched(facts, most)
        self.assertEqual(state_of(facts), before)
        self.assertIsInstance(told, tuple)
        self.assertEqual(len(told), 3)
        word, thing, many = told
        self.assertTrue(0 <= many <= most, told)
        if word == "found":
            self.assertTrue(facts.goes(thing))
        elif word == "shut":
            self.assertTrue(is_shut_by(facts, thing))
            self.assertEqual(boths_in(thing), many)
        else:
            self.assertEqual((word, thing), ("spent", None))
        return told


class PlainTest(SearchCase):
    def test_found(self):
        self.assertEqual(self.told(Facts(small_shop(), 3), 0), ("found", {"one": ("b", 0)}, 0))

    def test_shut(self):
        self.assertEqual(self.told(Facts(small_shop(), 2), 0), ("shut", ([], ("window", "one")), 0))

    def test_spent(self):
        shop = setup_shop(5, 0)
        told = [self.told(Facts(shop, 23), most) for most in (0, 1, 2, 5, 20, 400)]
        self.assertEqual([word for word, _, _ in told], ["spent"] * 3 + ["shut"] * 3)
        self.assertEqual([many for _, _, many in told[:3]], [0, 1, 2])
        self.assertEqual(self.told(Facts(shop, 24), 400)[0], "found")

    def test_two_on_one_bench(self):
        steps = [("one", "k", [("b", 3)]), ("two", "l", [("b", 4)])]
        shop = small_shop(steps=steps, setups=[("b", "k", "l", 2), ("b", "l", "k", 5)])
        self.assertEqual(self.told(Facts(shop, 9), 400)[1], {"one": ("b", 0), "two": ("b", 5)})
        self.assertEqual(self.told(Facts(shop, 8), 400)[0], "shut")

    def test_held_steps_and_now(self):
        steps = [("one", "k", [("b", 3)]), ("two", "k", [("b", 4)])]
        shop = small_shop(steps=steps)
        held = Facts(shop, 10, holds={"one": ("b", 2)}, now=3)
        self.assertEqual(self.told(held, 400)[1], {"one": ("b", 2), "two": ("b", 5)})
        self.assertEqual(self.told(Facts(shop, 8, holds={"one": ("b", 2)}, now=3), 400)[0], "shut")

    def test_a_kept_plan(self):
        steps = [("one", "k", [("b", 3)]), ("two", "k", [("b", 4)])]
        shop = small_shop(steps=steps)
        kept = {"one": ("b", 5), "two": ("b", 6)}
        self.assertEqual(self.told(Facts(shop, 20, kept=kept, most=0), 400)[0], "shut")
        word, schedule, _ = self.told(Facts(shop, 20, kept=kept, most=1), 400)
        self.assertEqual(word, "found")
        self.assertEqual(len([step for step in kept if schedule[step] != kept[step]]), 1)
        kept = {"one": ("b", 15), "two": ("b", 6)}
        self.assertEqual(self.told(Facts(shop, 20, kept=kept, most=0), 400)[1], kept)

    def test_one_puts_what_the_other_takes(self):
        steps = [("one", "k", [("b", 7)]), ("two", "k", [("c", 5)])]
        for horizon in (12, 30, 60):
            stocks = [("s", 0, 1, [("two", 1)], [("one", 1)]), ("t", 1, 1, [("two", 1)], [("one", 1)])]
            shop = small_shop(horizon=horizon, steps=steps, stocks=stocks)
            for limit in (5, 11, 12, horizon):
                word = self.told(Facts(shop, limit), 400)[0]
                self.assertEqual(word, "shut" if limit < 12 else "found")

    def test_rings(self):
        steps = [(name, "k", [("b", 1)]) for name in names(3)]
        links = [("naa", "nab", 0), ("nab", "nac", 0), ("nac", "naa", 0)]
        shop = small_shop(horizon=10 ** 6, steps=steps, links=links)
        self.assertEqual(self.told(Facts(shop, 10 ** 6), 0)[0], "shut")

    def test_names(self):
        self.assertEqual(str(inspect.signature(searched)), "(facts, most)")


class ManyTest(SearchCase):
    def test_all_schedules_gone_through(self):
        told = collections.Counter()
        for seed in range(130):
            parts, facts = roomy_facts(seed, most_steps=3, horizon=6)
            going = [schedule for schedule in all_schedules(parts) if facts.goes(schedule)]
            for most in (0, 1, 5, 400):
                word = self.told(facts, most)[0]
                self.assertFalse(word == "shut" and going, seed)
                self.assertFalse(word == "found" and not going, seed)
                told[most, word] += 1
        self.assertEqual(told[400, "spent"], 0)
        for key in ((0, "spent"), (0, "found"), (0, "shut"), (400, "shut"), (400, "found")):
            self.assertGreater(told[key], 0, told)

    def test_narrow_facts(self):
        for seed in range(100):
            self.told(chance_facts(seed, 1)[1], 400)

    def test_more_steps_and_ways(self):
        told = collections.Counter()
        for seed in range(60):
            facts = roomy_facts(seed, most_steps=6, most_ways=3, horizon=10)[1]
            told[self.told(facts, 400)[0]] += 1
        self.assertTrue(told["found"] > 5 and told["shut"] > 5, told)

    def test_at_most_two_steps_of_one_way_with_a_horizon_of_at_most_six(self):
        for seed in range(120):
            parts = roomy_parts(seed, most_steps=2, most_ways=1, horizon=1 + seed % 6)
            for limit in range(parts["horizon"] + 1):
                word = self.told(Facts(shop_of(parts), limit), 400)[0]
                self.assertNotEqual(word, "spent")

    def test_at_most_three_steps_of_one_way_without_stocks(self):
        for seed in range(120):
            horizon = (6, 40, 1000, 10 ** 6)[seed % 4]
            parts = roomy_parts(seed, most_steps=3, most_ways=1, horizon=horizon, stocks=False)
            grown = random.Random(seed)
            parts["steps"] = [
                (name, kind, [(bench, grown.randint(1, horizon // 2)) for bench, _ in ways])
                for name, kind, ways in parts["steps"]
            ]
            for limit in (horizon, grown.randint(0, horizon), horizon - 1):
                self.assertNotEqual(self.told(Facts(shop_of(parts), limit), 400)[0], "spent")


class TreeTest(SearchCase):
    def test_trees_with_boths(self):
        for seed, limit, many in ((0, 23, 4), (1, 18, 3), (2, 17, 1)):
            self.assertEqual(self.told(Facts(setup_shop(5, seed), limit), 400)[2], many)

    def test_no_tree_is_greater_than_it_may_be(self):
        words = []
        for seed in range(3):
            shop = setup_shop(8, seed)
            for limit in (24, 26, 28):
                word, tree, _ = self.told(Facts(shop, limit), 400)
                words.append(word)
                if word == "shut":
                    look_at_tree(shop, tree)
        self.assertIn("spent", words)

    def test_every_list_is_one_by_itself(self):
        for seed in range(80):
            facts = roomy_facts(seed)[1]
            tree = searched(facts, 400)[1]
            lists = [id(part) for part in lists_within(tree)]
            self.assertEqual(len(lists), len(set(lists)))

    def test_asked_again_the_same_is_told(self):
        for seed in range(60):
            facts = roomy_facts(seed)[1]
            before = state_of(facts)
            told = searched(facts, 400)
            kept = copied(told)
            spoil_lists(told)
            self.assertEqual(state_of(facts), before)
            self.assertEqual(searched(facts, 400), kept)


if __name__ == "__main__":
    unittest.main()
