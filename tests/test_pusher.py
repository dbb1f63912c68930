"""[2], [3], [35]: the pusher tells rows that lead on, and leaves nothing of what it looks for behind them."""

import collections
import itertools
import unittest

from shopbound.checker import is_shut_by
from shopbound.choices import side_of
from shopbound.facts import Facts
from shopbound.leaves import shuts_leaf
from shopbound.pusher import pushed_on
from shopbound.rows import behind_row
from shopbound.trees import look_at_tree
from tests.roomy import all_schedules, roomy_facts
from tests.samples import copied, names, small_shop, spoil_lists
from tests.slow import chance_facts, state_of


def told_ends(facts):
    """The moments l and r that [35] tells for stretches."""
    steps = facts.shop().step_names()
    horizon = facts.shop().last_moment()
    begins = {facts.first_of(step) for step in steps}
    ends = {facts.last_of(step) + facts.greatest_of(step) for step in steps}
    return [(l, r) for l in begins for r in ends if 0 <= l < r <= horizon]


def told_moments(facts):
    """The moments that [35] tells for stocks."""
    found = set()
    for step in facts.shop().step_names():
        first, last = facts.first_of(step), facts.last_of(step)
        found |= {first, last, first + facts.least_of(step), last + facts.greatest_of(step)}
    return [t for t in found if 0 <= t <= facts.shop().last_moment()]


def told_leaves(facts):
    """Every leaf that must not shut facts that were pushed."""
    shop = facts.shop()
    benches = [row[0] for row in shop.bench_rows()]
    leaves = [("moved",)] + [("window", step) for step in shop.step_names()]
    leaves += [("ring", list(ring)) for ring in itertools.permutations(shop.step_names(), 2)]
    for l, r in told_ends(facts):
        leaves += [("stretch", [bench], l, r) for bench in benches] + [("stretch", benches, l, r)]
        leaves += [("together", job[0], l, r) for job in shop.job_rows()]
    for stock in shop.stock_rows():
        leaves += [("stock", stock[0], t, word) for t in told_moments(facts) for word in ("less", "more")]
    return leaves


class PushCase(unittest.TestCase):
    def walked(self, facts, rows):
        """The facts behind rows and nots, each of which leads on and changes a first, a last or the orders."""
        reached = facts
        for row in rows:
            if row[0] == "not":
                self.assertTrue(is_shut_by(side_of(reached, row[1], row[2]), row[3]))
                new = side_of(reached, row[1], 1 - row[2])
            else:
                new = behind_row(reached, row)
            self.assertIsNotNone(new, row)
            before, after = state_of(reached), state_of(new)
            windows = [[state["steps"][step][1:3] for step in state["steps"]] for state in (before, after)]
            self.assertTrue(windows[0] != windows[1] or before["orders"] != after["orders"], row)
            reached = new
        return reached

    def settled(self, facts):
        """Nothing is left of what is looked for behind rows without a leaf."""
        before = state_of(facts)
        for leaf in told_leaves(facts):
            self.assertFalse(shuts_leaf(facts, leaf), leaf)
        steps = facts.shop().step_names()
        rows = [("fit", step) for step in steps]
        rows += [(word, one, other) for word in ("low", "high") for one in steps for other in steps]
        for row in rows:
            new = behind_row(facts, row)
            self.assertTrue(new is None or state_of(new) == before, row)
            self.assertFalse(row[0] == "fit" and new is None)
        for one, other in itertools.permutations(steps, 2):
            if facts.do_meet(one, other) and not facts.is_ahead(one, other) and not facts.is_ahead(other, one):
                new = side_of(facts, ("order", one, other), 0)
                for word in ("low", "high"):
                    behind = behind_row(new, (word, one, other))
                    self.assertNotIn(None, [behind.least_start(step) for step in steps])

    def pushed(self, facts):
        """What is told of facts, looked at in every way; told are the rows, the leaf and the facts behind the rows."""
        before = state_of(facts)
        told = pushed_on(facts)
        self.assertEqual(state_of(facts), before)
        self.assertIsInstance(told, tuple)
        rows, leaf = told
        self.assertIsInstance(rows, list)
        self.assertLessEqual(len(rows), 600)
        reached = self.walked(facts, rows)
        if leaf is not None:
            self.assertTrue(shuts_leaf(reached, leaf))
            self.assertTrue(is_shut_by(facts, (rows, leaf)))
        elif len(rows) < 600:
            self.settled(reached)
        return rows, leaf, reached


class PlainTest(PushCase):
    def two(self, limit, **parts):
        new = {"steps": [("one", "k", [("b", 3)]), ("two", "k", [("b", 4)])]}
        new.update(parts)
        return Facts(small_shop(**new), limit)

    def test_nothing_to_push(self):
        rows, leaf, _ = self.pushed(self.two(20))
        self.assertEqual((rows, leaf), ([], None))

    def test_a_link(self):
        rows, leaf, reached = self.pushed(self.two(12, links=[("two", "one", 1)]))
        self.assertIsNone(leaf)
        self.assertEqual((reached.first_of("one"), reached.last_of("two")), (5, 4))

    def test_a_link_that_does_not_fit(self):
        self.assertIsNotNone(self.pushed(self.two(7, links=[("two", "one", 1)]))[1])
        self.assertIsNone(self.pushed(self.two(8, links=[("two", "one", 1)]))[1])

    def test_a_break(self):
        facts = self.two(20, benches=[("b", [(1, 5), (17, 18)]), ("c", [])])
        rows, leaf, reached = self.pushed(facts)
        self.assertIsNone(leaf)
        self.assertEqual(reached.first_of("one"), 5)
        self.assertEqual((reached.last_of("one"), reached.last_of("two")), (14, 13))

    def test_an_order_that_cannot_be(self):
        facts = self.two(20, jobs=[("j", 6, 20, False, ["one"]), ("i", 0, 10, False, ["two"])])
        rows, leaf, reached = self.pushed(facts)
        self.assertIsNone(leaf)
        self.assertTrue(reached.is_ahead("two", "one"))
        self.assertIn("not", [row[0] for row in rows])

    def test_an_order_that_cannot_be_for_its_setup(self):
        jobs = [("j", 6, 13, False, ["one", "two"])]
        self.assertTrue(self.pushed(self.two(20, jobs=jobs))[2].orders() == [])
        setups = [("b", "k", "l", 1)]
        steps = [("one", "k", [("b", 3)]), ("two", "l", [("b", 4)])]
        reached = self.pushed(self.two(20, jobs=jobs, setups=setups, steps=steps))[2]
        self.assertEqual(reached.orders(), [("two", "one")])

    def test_no_order_can_be(self):
        self.assertIsNotNone(self.pushed(self.two(6))[1])

    def test_windows(self):
        self.assertEqual(self.pushed(self.two(2))[1][0], "window")
        facts = self.two(20)
        facts.set_open("two", [])
        self.assertEqual(self.pushed(facts)[1], ("window", "two"))

    def test_rings(self):
        ring = [("one", "two", 0), ("two", "one", 0)]
        self.assertEqual(self.pushed(self.two(20, links=ring))[1][0], "ring")
        steps = [("one", "k", [("b", 3)]), ("two", "k", [("c", 4)]), ("zed", "k", [("d", 1)])]
        benches = [("b", []), ("c", []), ("d", [])]
        ring = [("one", "two", 0), ("two", "zed", 5), ("zed", "one", 0)]
        for horizon in (20, 10 ** 6):
            shop = small_shop(horizon=horizon, steps=steps, benches=benches, links=ring)
            self.pushed(Facts(shop, horizon))

    def test_a_ring_of_a_put_order(self):
        facts = self.two(20, links=[("one", "two", 0)])
        facts.put_order("two", "one")
        self.assertIsNotNone(self.pushed(facts)[1])

    def test_a_stretch_of_one_bench(self):
        steps = [(name, "k", [("b", 3)]) for name in names(4)]
        self.assertEqual(self.pushed(Facts(small_shop(steps=steps), 12))[1], None)
        self.assertEqual(self.pushed(Facts(small_shop(steps=steps), 11))[1], ("stretch", ["b"], 0, 11))
        shut = small_shop(steps=steps, benches=[("b", [(6, 7)]), ("c", [])])
        self.assertEqual(self.pushed(Facts(shut, 13))[1], None)
        self.assertEqual(self.pushed(Facts(shut, 12))[1][0], "stretch")

    def test_a_stretch_of_all_benches(self):
        steps = [(name, "k", [("b", 3), ("c", 4)]) for name in names(6)]
        # last and greatest length together are one more than the limit
        self.assertEqual(self.pushed(Facts(small_shop(steps=steps), 8))[1], None)
        leaf = self.pushed(Facts(small_shop(steps=steps), 7))[1]
        self.assertEqual((leaf[0], sorted(leaf[1])), ("stretch", ["b", "c"]))

    def test_a_stretch_somewhere_within(self):
        steps = [(name, "k", [("b", 3)]) for name in names(3)] + [("nad", "k", [("b", 1)]), ("zed", "k", [("b", 1)])]
        jobs = [("j" + name, 4, 13, False, [name]) for name in names(3)]
        self.assertEqual(self.pushed(Facts(small_shop(steps=steps, jobs=jobs), 20))[1], None)
        jobs = [("j" + name, 4, 13, False, [name]) for name in names(4)]
        self.assertEqual(self.pushed(Facts(small_shop(steps=steps, jobs=jobs), 20))[1], ("stretch", ["b"], 4, 13))

    def test_a_step_that_covers_a_stretch(self):
        steps = [("one", "k", [("b", 10)]), ("two", "k", [("c", 2)])]
        facts = Facts(small_shop(steps=steps, jobs=[("j", 3, 7, False, ["two"])]), 20, holds={"one": ("b", 0)})
        self.assertIsNone(self.pushed(facts)[1])

    def test_together(self):
        steps = [(name, "k", [("b", 3), ("c", 3)]) for name in names(3)]
        benches = [(bench, []) for bench in ("b", "c", "d")]
        jobs = [("j", 0, 20, False, names(3))]
        shop = small_shop(steps=steps, jobs=jobs, benches=benches)
        self.assertIsNone(self.pushed(Facts(shop, 9))[1])
        self.assertEqual(self.pushed(Facts(shop, 8))[1], ("together", "j", 0, 8))

    def test_stocks(self):
        steps = [("one", "k", [("b", 3)]), ("two", "k", [("c", 4)])]
        lacking = small_shop(steps=steps, stocks=[("s", 0, 1, [("one", 1)], [("two", 1)])])
        self.assertIsNone(self.pushed(Facts(lacking, 7))[1])
        self.assertEqual(self.pushed(Facts(lacking, 6))[1], ("stock", "s", 3, "less"))
        brimming = small_shop(steps=steps, stocks=[("s", 1, 1, [("one", 1)], [("two", 1)])], jobs=[("j", 5, 20, True, ["one"])])
        self.assertIsNone(self.pushed(Facts(brimming, 9))[1])
        early = Facts(brimming, 20, holds={"two": ("c", 0)})
        self.assertEqual(self.pushed(early)[1], ("stock", "s", 4, "more"))

    def test_moved(self):
        shop = small_shop(links=[])
        facts = Facts(shop, 20, kept={"one": ("b", 5)}, most=0)
        self.assertIsNone(self.pushed(facts)[1])
        facts.put_note("one")
        self.assertEqual(self.pushed(facts)[1], ("moved",))
        facts = Facts(shop, 7, kept={"one": ("b", 5)}, most=0)
        self.assertEqual(self.pushed(facts)[1], ("moved",))

    def test_links_that_go_round_with_a_long_horizon(self):
        for many in (2, 3, 7, 40):
            steps = [(name, "k", [("b", 1)]) for name in names(many)]
            links = [(one, other, 0) for one, other in zip(names(many), names(many)[1:] + names(1))]
            shop = small_shop(horizon=10 ** 6, steps=steps, links=links)
            facts = Facts(shop, 10 ** 6)
            rows, leaf = pushed_on(facts)
            self.assertLessEqual(len(rows), 600)
            self.walked(facts, rows)
            if leaf is not None:
                self.assertTrue(is_shut_by(facts, (rows, leaf)))

    def test_more_than_600_are_never_told(self):
        many = names(40)
        steps = [(name, "k", [("b", 1)]) for name in many]
        jobs = [("j" + name[1:], 10 * k, 10 * k + 5, False, [name]) for k, name in enumerate(many)]
        facts = Facts(small_shop(horizon=1000, steps=steps, jobs=jobs), 1000)
        rows, leaf = pushed_on(facts)
        self.assertEqual((len(rows), leaf), (600, None))
        self.walked(facts, rows)


class ManyTest(PushCase):
    def test_facts_of_shops_with_room(self):
        told = collections.Counter()
        for seed in range(400):
            _, facts = roomy_facts(seed)
            rows, leaf, _ = self.pushed(facts)
            told[leaf if leaf is None else leaf[0]] += 1
            told.update(row[0] for row in rows)
        for word in (None, "window", "stock", "moved", "stretch", "low", "high", "fit", "not"):
            self.assertGreater(told[word], 2, told)

    def test_narrow_facts(self):
        for seed in range(150):
            self.pushed(chance_facts(seed, 0)[1])

    def test_no_schedule_is_lost(self):
        shut = 0
        for seed in range(120):
            parts, facts = roomy_facts(seed, most_steps=3, horizon=6)
            rows, leaf, reached = self.pushed(facts)
            going = [schedule for schedule in all_schedules(parts) if facts.goes(schedule)]
            self.assertTrue(all(reached.goes(schedule) for schedule in going))
            self.assertFalse(leaf is not None and going)
            shut += leaf is not None
        self.assertTrue(20 < shut < 100, shut)

    def test_asked_again_the_same_is_told(self):
        for seed in range(60):
            _, facts = roomy_facts(seed)
            told = pushed_on(facts)
            kept = copied(told)
            before = state_of(facts)
            spoil_lists(told)
            self.assertEqual(state_of(facts), before)
            self.assertEqual(pushed_on(facts), kept)

    def test_every_list_is_one_by_itself(self):
        for seed in range(60):
            rows, leaf = pushed_on(roomy_facts(seed)[1])
            if leaf is not None:
                look_at_tree(roomy_facts(seed)[1].shop(), (rows, leaf))
            lists = [id(rows)] + [id(row[3][0]) for row in rows if row[0] == "not"]
            self.assertEqual(len(lists), len(set(lists)))


if __name__ == "__main__":
    unittest.main()
