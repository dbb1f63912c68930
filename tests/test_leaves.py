"""[2], [29], [30]: overlaps, and what each leaf shuts."""

import inspect
import itertools
import unittest

from shopbound.facts import Facts
from shopbound.leaves import overlap_of, shuts_leaf
from tests.samples import copied, small_shop
from tests.slow import chance_facts, kept_schedules, lively_seeds, slow_possible, state_of


def facts_of(windows, **parts):
    """Facts of a shop with a horizon of 20, in which some steps have the first and last told."""
    facts = Facts(small_shop(**parts), 20)
    for step, (first, last) in windows.items():
        facts.set_window(step, first, last)
    return facts


def on_b(**lengths):
    """Steps with one way each, on b."""
    return [(name, "k", [("b", length)]) for name, length in lengths.items()]


class LeafCase(unittest.TestCase):
    def told(self, facts, leaf, asked):
        before = state_of(facts)
        kept = copied(leaf)
        self.assertIs(shuts_leaf(facts, leaf), asked, leaf)
        self.assertEqual(leaf, kept)
        self.assertEqual(state_of(facts), before)


class OverlapTest(unittest.TestCase):
    def overlap(self, first, last, l, r, ways=(("b", 4),)):
        facts = facts_of({"one": (first, last)}, steps=[("one", "k", list(ways))])
        before = state_of(facts)
        told = overlap_of(facts, "one", l, r)
        self.assertEqual(state_of(facts), before)
        return told

    def test_wholly_within(self):
        self.assertEqual(self.overlap(5, 5, 5, 9), 4)
        self.assertEqual(self.overlap(5, 7, 5, 11), 4)
        self.assertEqual(self.overlap(5, 7, 0, 20), 4)

    def test_partly_within_at_the_first(self):
        self.assertEqual(self.overlap(5, 8, 6, 12), 3)
        self.assertEqual(self.overlap(5, 8, 8, 12), 1)
        self.assertEqual(self.overlap(5, 8, 9, 13), 0)

    def test_partly_within_at_the_last(self):
        self.assertEqual(self.overlap(5, 8, 5, 11), 3)
        self.assertEqual(self.overlap(5, 8, 5, 9), 1)
        self.assertEqual(self.overlap(5, 8, 5, 8), 0)

    def test_not_within(self):
        self.assertEqual(self.overlap(5, 5, 0, 5), 0)
        self.assertEqual(self.overlap(5, 5, 9, 20), 0)
        self.assertEqual(self.overlap(0, 16, 5, 9), 0)

    def test_longer_than_the_stretch(self):
        self.assertEqual(self.overlap(5, 5, 6, 8), 2)
        self.assertEqual(self.overlap(4, 6, 6, 7), 1)

    def test_a_last_before_the_first(self):
        self.assertEqual(self.overlap(6, 5, 6, 20), 3)
        self.assertEqual(self.overlap(6, -8, 0, 20), 0)

    def test_the_least_over_several_open_benches(self):
        self.assertEqual(self.overlap(5, 5, 0, 20, (("b", 4), ("c", 6))), 4)
        self.assertEqual(self.overlap(5, 5, 0, 20, (("b", 6), ("c", 4))), 4)
        self.assertEqual(self.overlap(5, 5, 8, 20, (("b", 4), ("c", 6))), 1)
        self.assertEqual(self.overlap(5, 5, 0, 8, (("b", 2), ("c", 6))), 2)

    def test_open_benches_alone(self):
        facts = facts_of({"one": (5, 5)}, steps=[("one", "k", [("b", 4), ("c", 6)])])
        facts.set_open("one", ["c"])
        self.assertEqual(overlap_of(facts, "one", 0, 20), 6)

    def test_no_bench_open(self):
        facts = facts_of({"one": (5, 5)})
        facts.set_open("one", [])
        self.assertEqual(overlap_of(facts, "one", 0, 20), 0)

    def test_beside_moments_over_many_small_shops(self):
        some = 0
        for seed in range(80):
            parts, facts = chance_facts(seed, 0)
            for step, _, ways in parts["steps"]:
                lengths = [length for bench, length in ways if bench in facts.open_to(step)]
                for l, r in itertools.combinations(range(parts["horizon"] + 1), 2):
                    within = [
                        len(set(range(start, start + length)) & set(range(l, r)))
                        for length in lengths for start in (facts.first_of(step), facts.last_of(step))
                    ]
                    if within:
                        self.assertEqual(overlap_of(facts, step, l, r), min(within))
                        some += min(within) > 0
        self.assertGreater(some, 200)


class WindowTest(LeafCase):
    def test_window(self):
        benches = [("b", [(6, 9)]), ("c", [])]
        for first, last, asked in ((3, 3, False), (4, 8, True), (4, 9, False), (3, 8, False), (9, 8, True), (17, 17, False),
                                   (18, 19, True)):
            facts = facts_of({"one": (first, last)}, benches=benches, steps=on_b(one=3, two=3))
            self.told(facts, ("window", "one"), asked)
            self.told(facts, ("window", "two"), False)

    def test_no_bench_open(self):
        facts = facts_of({})
        facts.set_open("one", [])
        self.told(facts, ("window", "one"), True)

    def test_the_kept_place_of_a_noted_step(self):
        facts = Facts(small_shop(), 3, None, {"one": ("b", 0)}, 1)
        self.told(facts, ("window", "one"), False)
        facts.put_note("one")
        self.told(facts, ("window", "one"), True)


class RingTest(LeafCase):
    def facts(self, *orders):
        facts = facts_of({}, steps=on_b(one=1, two=1, zed=1), links=[("one", "two", 2)])
        for one, other in orders:
            facts.put_order(one, other)
        return facts

    def test_one(self):
        self.told(self.facts(), ("ring", ["one"]), False)

    def test_two(self):
        self.told(self.facts(), ("ring", ["one", "two"]), False)
        self.told(self.facts(("two", "one")), ("ring", ["one", "two"]), True)
        self.told(self.facts(("two", "one")), ("ring", ["two", "one"]), True)
        self.told(self.facts(("two", "zed"), ("zed", "two")), ("ring", ["two", "zed"]), True)

    def test_three(self):
        facts = self.facts(("two", "zed"), ("zed", "one"))
        for names in (["one", "two", "zed"], ["two", "zed", "one"], ["zed", "one", "two"]):
            self.told(facts, ("ring", names), True)
        for names in (["one", "zed", "two"], ["two", "one", "zed"], ["one", "two"], ["two", "zed"], ["one", "one"]):
            self.told(facts, ("ring", names), False)

    def test_a_link_that_is_not_ahead(self):
        ring = ("ring", ["one", "two", "zed"])
        self.told(self.facts(("two", "zed")), ring, False)
        self.told(self.facts(("zed", "one")), ring, False)
        self.told(self.facts(("two", "zed"), ("one", "zed")), ring, False)
        facts = facts_of({}, steps=on_b(one=1, two=1, zed=1))
        facts.put_order("two", "zed")
        facts.put_order("zed", "one")
        self.told(facts, ring, False)

    def test_a_ring_walked_twice(self):
        self.told(self.facts(("two", "one")), ("ring", ["one", "two", "one", "two"]), True)

    def test_a_ring_of_links(self):
        facts = facts_of({}, steps=on_b(one=1, two=1), links=[("one", "two", 0), ("two", "one", 0)])
        self.told(facts, ("ring", ["one", "two"]), True)

    def test_a_job_and_a_link_against_it(self):
        jobs = [("j", 0, 20, True, ["one", "two", "zed"])]
        facts = facts_of({}, steps=on_b(one=1, two=1, zed=1), jobs=jobs, links=[("zed", "one", 0)])
        self.told(facts, ("ring", ["one", "zed"]), True)
        self.told(facts, ("ring", ["one", "two", "zed"]), True)


class StretchTest(LeafCase):
    def test_one_bench_sums_equal_and_one_more(self):
        for length, asked in ((3, False), (4, True)):
            facts = facts_of({"one": (5, 7), "two": (5, 7)}, steps=on_b(one=3, two=length))
            self.told(facts, ("stretch", ["b"], 5, 11), asked)
        facts = facts_of({"one": (5, 7), "two": (5, 7)}, steps=on_b(one=3, two=3))
        self.told(facts, ("stretch", ["b"], 5, 11), False)
        self.told(facts, ("stretch", ["b"], 5, 10), True)
        self.told(facts, ("stretch", ["b"], 5, 9), False)

    def test_breaks_within_partly_within_and_outside(self):
        windows = {"one": (5, 7), "two": (5, 7)}
        for breaks, asked in (
            ([], False), ([(6, 7)], True), ([(5, 6)], True), ([(10, 11)], True), ([(3, 6)], True), ([(10, 15)], True),
            ([(0, 5)], False), ([(11, 12)], False), ([(0, 5), (11, 20)], False), ([(2, 4), (14, 16)], False),
            ([(0, 5), (8, 9), (11, 20)], True),
        ):
            facts = facts_of(windows, benches=[("b", breaks), ("c", [(6, 8)])], steps=on_b(one=3, two=3))
            self.told(facts, ("stretch", ["b"], 5, 11), asked)

    def test_how_many_moments_lie_in_breaks(self):
        for end, asked in ((8, False), (9, True)):
            facts = facts_of({"one": (2, 2), "two": (3, 3)}, benches=[("b", [(6, end)])], steps=on_b(one=5, two=5))
            self.told(facts, ("stretch", ["b"], 2, 14), asked)

    def test_several_benches(self):
        steps = [("one", "k", [("b", 3), ("c", 3)]), ("two", "k", [("c", 3)]), ("zed", "k", [("c", 3), ("b", 4)])]
        windows = {"one": (5, 6), "two": (5, 6), "zed": (5, 6)}
        facts = facts_of(windows, steps=steps)
        self.told(facts, ("stretch", ["b", "c"], 5, 9), True)
        self.told(facts, ("stretch", ["c", "b"], 5, 9), True)
        self.told(facts, ("stretch", ["b", "c"], 5, 10), False)
        self.told(facts, ("stretch", ["b"], 5, 9), False)
        self.told(facts, ("stretch", ["c"], 5, 9), False)

    def test_the_moments_left_are_summed_over_the_benches(self):
        steps = [(name, "k", [("b", 3), ("c", 3)]) for name in ("one", "two", "zed")]
        windows = {name: (5, 7) for name in ("one", "two", "zed")}
        for breaks, others, asked in (
            ([], [], False), ([(5, 6)], [], False), ([], [(9, 10)], False), ([(5, 6)], [(6, 7)], True),
            ([(5, 7)], [], True), ([(0, 6)], [(10, 12)], False), ([(4, 5)], [(9, 11)], False), ([(0, 6)], [(9, 12)], True),
        ):
            facts = facts_of(windows, benches=[("b", breaks), ("c", others)], steps=steps)
            self.told(facts, ("stretch", ["b", "c"], 5, 10), asked)

    def test_steps_with_other_benches_open_too_do_not_count(self):
        steps = [("one", "k", [("b", 3)]), ("two", "k", [("b", 3), ("c", 3)])]
        facts = facts_of({"one": (5, 6), "two": (5, 6)}, steps=steps)
        self.told(facts, ("stretch", ["b"], 5, 9), False)
        facts.set_open("two", ["b"])
        self.told(facts, ("stretch", ["b"], 5, 9), True)
        facts.set_open("two", ["c"])
        self.told(facts, ("stretch", ["b"], 5, 9), False)

    def test_steps_to_which_no_bench_is_open_do_not_count(self):
        facts = facts_of({"one": (5, 6), "two": (5, 6)}, steps=on_b(one=3, two=3))
        self.told(facts, ("stretch", ["b"], 5, 9), True)
        facts.set_open("two", [])
        self.told(facts, ("stretch", ["b"], 5, 9), False)

    def test_one_moment(self):
        facts = facts_of({"one": (5, 5), "two": (5, 5)}, steps=on_b(one=1, two=1))
        self.told(facts, ("stretch", ["b"], 5, 6), True)
        self.told(facts, ("stretch", ["b"], 4, 5), False)
        self.told(facts, ("stretch", ["b"], 0, 20), False)

    def test_setups_do_not_count(self):
        facts = facts_of({}, steps=on_b(one=10, two=10), setups=[("b", "k", "k", 5)])
        self.told(facts, ("stretch", ["b"], 0, 20), False)


class TogetherTest(LeafCase):
    def facts(self, *lengths, windows=None):
        names = ("one", "two", "zed")[: len(lengths)]
        benches = [(bench, [(5, 6)]) for bench in ("b", "c", "d")]
        steps = [(name, "k", [(bench, length)]) for name, bench, length in zip(names, "bcd", lengths)]
        jobs = [("i", 0, 20, True, ["zed"]), ("j", 0, 20, False, ["two", "one"])] if len(lengths) > 2 else [
            ("j", 0, 20, False, ["two", "one"])]
        return facts_of(windows or {name: (6, 8) for name in names}, benches=benches, steps=steps, jobs=jobs)

    def test_sums_equal_and_one_more(self):
        self.told(self.facts(3, 3), ("together", "j", 6, 12), False)
        self.told(self.facts(3, 3), ("together", "j", 6, 11), True)
        self.told(self.facts(3, 3), ("together", "j", 6, 10), False)
        self.told(self.facts(3, 4), ("together", "j", 6, 12), True)
        self.told(self.facts(4, 3), ("together", "j", 6, 12), True)

    def test_breaks_do_not_count(self):
        facts = self.facts(3, 3, windows={"one": (4, 4), "two": (4, 4)})
        self.told(facts, ("together", "j", 3, 9), False)
        self.told(facts, ("together", "j", 4, 7), True)

    def test_steps_of_other_jobs_do_not_count(self):
        facts = self.facts(3, 3, 9)
        self.told(facts, ("together", "j", 6, 12), False)
        self.told(facts, ("together", "i", 6, 12), False)
        self.told(facts, ("together", "j", 6, 11), True)

    def test_steps_to_which_no_bench_is_open_do_not_count(self):
        facts = self.facts(3, 3)
        facts.set_open("one", [])
        self.told(facts, ("together", "j", 6, 11), False)
        facts.set_window("two", 6, 6)
        self.told(facts, ("together", "j", 6, 9), False)

    def test_the_least_over_open_benches(self):
        steps = [("one", "k", [("b", 6), ("c", 3)]), ("two", "k", [("c", 3)])]
        windows = {"one": (6, 8), "two": (6, 8)}
        facts = facts_of(windows, steps=steps, jobs=[("j", 0, 20, False, ["one", "two"])])
        self.told(facts, ("together", "j", 6, 12), False)
        facts.set_open("one", ["b"])
        self.told(facts, ("together", "j", 6, 12), True)


class StockTest(LeafCase):
    def facts(self, first, room, takes, puts, **windows):
        steps = [("one", "k", [("b", 3), ("c", 5)]), ("two", "k", [("b", 2), ("c", 4)]), ("zed", "k", [("b", 1)])]
        stocks = [("other", 0, 0, [], []), ("s", first, room, takes, puts)]
        return facts_of(windows, steps=steps, stocks=stocks)

    def test_less_by_the_last_of_takes(self):
        facts = self.facts(1, 9, [("one", 2)], [], one=(2, 6))
        for t, asked in ((5, False), (6, True), (7, True), (20, True), (0, False)):
            self.told(facts, ("stock", "s", t, "less"), asked)

    def test_less_just_not(self):
        for first, asked in ((1, True), (2, False)):
            facts = self.facts(first, 9, [("one", 1), ("two", 1)], [], one=(2, 6), two=(2, 6))
            self.told(facts, ("stock", "s", 6, "less"), asked)
            facts = self.facts(first, 9, [("one", 2)], [], one=(2, 6))
            self.told(facts, ("stock", "s", 6, "less"), asked)

    def test_less_by_the_first_and_least_length_of_puts(self):
        facts = self.facts(0, 9, [("one", 1)], [("two", 1)], one=(2, 6), two=(5, 17))
        for t, asked in ((5, False), (6, True), (7, False), (8, False)):
            self.told(facts, ("stock", "s", t, "less"), asked)
        facts.set_open("two", ["c"])
        for t, asked in ((6, True), (7, True), (8, True), (9, False)):
            self.told(facts, ("stock", "s", t, "less"), asked)

    def test_more_by_the_last_and_greatest_length_of_puts(self):
        facts = self.facts(1, 2, [], [("one", 2)], one=(2, 6))
        for t, asked in ((8, False), (9, False), (10, False), (11, True), (20, True)):
            self.told(facts, ("stock", "s", t, "more"), asked)
        facts.set_open("one", ["b"])
        for t, asked in ((8, False), (9, True)):
            self.told(facts, ("stock", "s", t, "more"), asked)

    def test_more_just_not(self):
        for room, asked in ((3, False), (2, True)):
            facts = self.facts(1, room, [], [("one", 1), ("two", 1)], one=(2, 6), two=(2, 7))
            self.told(facts, ("stock", "s", 11, "more"), asked)

    def test_more_by_the_first_of_takes(self):
        facts = self.facts(2, 2, [("two", 1)], [("one", 1)], one=(2, 6), two=(12, 16))
        for t, asked in ((10, False), (11, True), (12, False), (13, False)):
            self.told(facts, ("stock", "s", t, "more"), asked)

    def test_steps_to_which_no_bench_is_open_count_nothing(self):
        facts = self.facts(0, 9, [("one", 1)], [("two", 1)], one=(2, 6), two=(1, 1))
        self.told(facts, ("stock", "s", 6, "less"), False)
        facts.set_open("two", [])
        self.told(facts, ("stock", "s", 6, "less"), True)
        facts.set_open("one", [])
        self.told(facts, ("stock", "s", 6, "less"), False)
        facts = self.facts(2, 2, [("two", 1)], [("one", 1)], one=(2, 6), two=(1, 1))
        self.told(facts, ("stock", "s", 11, "more"), False)
        facts.set_open("two", [])
        self.told(facts, ("stock", "s", 11, "more"), True)
        facts.set_open("one", [])
        self.told(facts, ("stock", "s", 11, "more"), False)

    def test_a_step_that_takes_and_puts(self):
        facts = self.facts(0, 1, [("one", 1)], [("one", 1)], one=(2, 2))
        for t, asked in ((1, False), (2, True), (4, True), (5, False)):
            self.told(facts, ("stock", "s", t, "less"), asked)

    def test_the_stock_told(self):
        facts = self.facts(1, 9, [("one", 2)], [], one=(2, 6))
        self.told(facts, ("stock", "other", 6, "less"), False)
        self.told(facts, ("stock", "s", 6, "more"), False)


class MovedTest(LeafCase):
    def facts(self, most, **kept):
        steps = [("one", "k", [("b", 3), ("c", 5)]), ("two", "k", [("b", 2), ("c", 4)]), ("zed", "k", [("b", 1)])]
        facts = Facts(small_shop(steps=steps), 20, None, kept, most)
        for step in ("one", "two", "zed"):
            facts.set_window(step, 4, 9)
        return facts

    def test_none_is_moved(self):
        self.told(self.facts(0, one=("b", 4), two=("c", 9), zed=("b", 6)), ("moved",), False)
        self.told(self.facts(0), ("moved",), False)

    def test_each_way_of_being_moved(self):
        for place in (("b", 3), ("b", 10), ("mill", 6), ("", 6), ("b", -1)):
            self.told(self.facts(0, one=place), ("moved",), True)
            self.told(self.facts(1, one=place), ("moved",), False)
        facts = self.facts(0, one=("b", 6))
        facts.set_open("one", ["c"])
        self.told(facts, ("moved",), True)
        facts.set_open("one", ["b"])
        self.told(facts, ("moved",), False)
        facts.put_note("one")
        self.told(facts, ("moved",), True)

    def test_a_step_counts_once(self):
        facts = self.facts(1, one=("mill", 3))
        facts.put_note("one")
        self.told(facts, ("moved",), False)

    def test_as_many_as_the_most_and_one_more(self):
        for most, asked in ((0, True), (1, True), (2, True), (3, False), (4, False)):
            facts = self.facts(most, one=("mill", 6), two=("b", 3), zed=("b", 6))
            facts.put_note("zed")
            self.told(facts, ("moved",), asked)

    def test_no_kept_plan(self):
        self.told(Facts(small_shop(), 20), ("moved",), False)


def leaves_of(parts):
    """Every leaf of a small shop, rings of at most three steps."""
    steps = [row[0] for row in parts["steps"]]
    benches = [row[0] for row in parts["benches"]]
    leaves = [("moved",)] + [("window", step) for step in steps]
    for many in (1, 2, 3):
        leaves.extend(("ring", list(ring)) for ring in itertools.permutations(steps, many))
    for l, r in itertools.combinations(range(parts["horizon"] + 1), 2):
        for many in range(1, len(benches) + 1):
            leaves.extend(("stretch", list(some), l, r) for some in itertools.permutations(benches, many))
        leaves.extend(("together", job[0], l, r) for job in parts["jobs"])
    for stock in parts["stocks"]:
        for t in range(parts["horizon"] + 1):
            leaves.extend([("stock", stock[0], t, "less"), ("stock", stock[0], t, "more")])
    return leaves


class ManyTest(unittest.TestCase):
    def test_with_facts_that_a_leaf_shuts_goes_no_schedule(self):
        shut = {}
        left = {}
        for seed in lively_seeds():
            for turn in range(5):
                parts, facts = chance_facts(seed, turn)
                going = [schedule for schedule in kept_schedules(seed) if facts.goes(schedule)]
                for leaf in leaves_of(parts):
                    if shuts_leaf(facts, leaf):
                        self.assertEqual(going, [], (seed, turn, leaf))
                        shut[leaf[0]] = shut.get(leaf[0], 0) + 1
                    elif going:
                        left[leaf[0]] = left.get(leaf[0], 0) + 1
        kinds = ["moved", "ring", "stock", "stretch", "together", "window"]
        self.assertEqual(sorted(shut), kinds)
        self.assertEqual(sorted(left), kinds)
        self.assertGreater(min(shut.values()), 20)

    def test_windows_beside_every_place(self):
        for seed in range(100):
            parts, facts = chance_facts(seed, 6)
            for step, _, _ in parts["steps"]:
                self.assertIs(shuts_leaf(facts, ("window", step)), slow_possible(parts, facts, step) == [])


class InterfaceTest(unittest.TestCase):
    def test_interface(self):
        self.assertEqual(list(inspect.signature(overlap_of).parameters), ["facts", "step", "l", "r"])
        self.assertEqual(list(inspect.signature(shuts_leaf).parameters), ["facts", "leaf"])


if __name__ == "__main__":
    unittest.main()
