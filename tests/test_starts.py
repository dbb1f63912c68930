"""[23]: lengths over the open benches, and possible starts."""

import unittest

from shopbound.facts import Facts
from tests.samples import small_shop
from tests.slow import chance_facts, every_place, slow_possible


def one_step(ways, horizon=20, **breaks):
    """Facts of a shop of one step, with breaks by benches."""
    benches = [(bench, breaks.get(bench, [])) for bench, _ in ways]
    return Facts(small_shop(horizon=horizon, benches=benches, steps=[("one", "k", ways)]), horizon)


def starts(facts, bench, low=-3, high=25):
    """All possible starts of the step one on a bench."""
    return [start for start in range(low, high) if facts.can_start("one", bench, start)]


def ends(facts):
    """The least and the greatest start of the step one."""
    return (facts.least_start("one"), facts.greatest_start("one"))


class LengthsTest(unittest.TestCase):
    def test_over_open_benches_alone(self):
        facts = one_step([("b", 5), ("c", 2), ("d", 9), ("e", 4)])
        for benches, least, greatest in (
            (["b", "c", "d", "e"], 2, 9), (["b", "e"], 4, 5), (["e", "b"], 4, 5), (["d"], 9, 9), (["c", "d"], 2, 9),
        ):
            facts.set_open("one", benches)
            self.assertEqual((facts.least_of("one"), facts.greatest_of("one")), (least, greatest))

    def test_none_open(self):
        facts = one_step([("b", 5), ("c", 2)])
        facts.set_open("one", [])
        self.assertIsNone(facts.least_of("one"))
        self.assertIsNone(facts.greatest_of("one"))


class PossibleTest(unittest.TestCase):
    def test_first_and_last(self):
        facts = one_step([("b", 3)])
        self.assertEqual(starts(facts, "b"), list(range(0, 18)))
        facts.set_window("one", 4, 7)
        self.assertEqual(starts(facts, "b"), [4, 5, 6, 7])
        self.assertEqual(ends(facts), (4, 7))
        facts.set_window("one", 4, 4)
        self.assertEqual(starts(facts, "b"), [4])
        self.assertEqual(ends(facts), (4, 4))
        facts.set_window("one", 5, 4)
        self.assertEqual(starts(facts, "b"), [])
        self.assertEqual(ends(facts), (None, None))

    def test_the_end_mark(self):
        facts = one_step([("b", 3)])
        facts.set_window("one", 15, 30)
        self.assertEqual(starts(facts, "b", 0, 40), [15, 16, 17])
        self.assertEqual(ends(facts), (15, 17))
        facts.set_window("one", 17, 30)
        self.assertEqual(ends(facts), (17, 17))
        facts.set_window("one", 18, 30)
        self.assertEqual(ends(facts), (None, None))

    def test_the_end_mark_of_each_length(self):
        facts = one_step([("b", 3), ("c", 8)])
        self.assertEqual(starts(facts, "b")[-1], 17)
        self.assertEqual(starts(facts, "c")[-1], 12)
        self.assertEqual(ends(facts), (0, 17))
        facts.set_open("one", ["c"])
        self.assertEqual(ends(facts), (0, 12))

    def test_the_end_mark_is_of_the_limit_and_the_job(self):
        shop = small_shop(jobs=[("j", 2, 12, False, ["one"])])
        self.assertEqual(ends(Facts(shop, 20)), (2, 9))
        self.assertEqual(ends(Facts(shop, 8)), (2, 5))
        self.assertEqual(ends(Facts(shop, 5)), (2, 2))
        self.assertEqual(ends(Facts(shop, 4)), (None, None))
        facts = Facts(shop, 20)
        facts.set_window("one", 0, 20)
        self.assertEqual(ends(facts), (0, 9))

    def test_breaks_touched_and_not_touched(self):
        facts = one_step([("b", 3)], b=[(6, 9)])
        self.assertEqual(starts(facts, "b"), [0, 1, 2, 3, 9, 10, 11, 12, 13, 14, 15, 16, 17])
        for first, last, asked in (
            (3, 9, (3, 9)), (4, 9, (9, 9)), (3, 8, (3, 3)), (4, 8, (None, None)), (8, 9, (9, 9)), (9, 9, (9, 9)),
            (0, 8, (0, 3)), (4, 20, (9, 17)), (6, 6, (None, None)), (5, 6, (None, None)),
        ):
            facts.set_window("one", first, last)
            self.assertEqual(ends(facts), asked)

    def test_a_break_within_a_long_step(self):
        facts = one_step([("b", 10)], b=[(5, 6)])
        self.assertEqual(starts(facts, "b"), [6, 7, 8, 9, 10])
        self.assertEqual(ends(facts), (6, 10))

    def test_breaks_at_both_ends_of_the_horizon(self):
        facts = one_step([("b", 4)], b=[(0, 2), (18, 20)])
        self.assertEqual(ends(facts), (2, 14))
        self.assertEqual(starts(facts, "b"), list(range(2, 15)))

    def test_behind_several_breaks(self):
        facts = one_step([("b", 3)], b=[(1, 2), (4, 5), (7, 9), (13, 14), (16, 18), (19, 20)])
        self.assertEqual(starts(facts, "b"), [9, 10])
        self.assertEqual(ends(facts), (9, 10))
        facts = one_step([("b", 4)], b=[(1, 2), (4, 5), (7, 9), (13, 14), (16, 18), (19, 20)])
        self.assertEqual(ends(facts), (9, 9))
        facts = one_step([("b", 5)], b=[(1, 2), (4, 5), (7, 9), (13, 14), (16, 18), (19, 20)])
        self.assertEqual(ends(facts), (None, None))

    def test_a_gap_between_breaks_just_as_long(self):
        facts = one_step([("b", 2)], b=[(0, 3), (5, 8), (9, 20)])
        self.assertEqual(starts(facts, "b"), [3])
        self.assertEqual(ends(facts), (3, 3))

    def test_far_moments(self):
        facts = one_step([("b", 10 ** 5)], 10 ** 6, b=[(10, 20), (10 ** 5, 9 * 10 ** 5)])
        self.assertEqual(ends(facts), (9 * 10 ** 5, 9 * 10 ** 5))

    def test_over_several_benches(self):
        facts = one_step([("b", 6), ("c", 2)], b=[(14, 20)], c=[(0, 5)])
        self.assertEqual(ends(facts), (0, 18))
        self.assertEqual(starts(facts, "b"), list(range(0, 9)))
        self.assertEqual(starts(facts, "c"), list(range(5, 19)))
        facts.set_window("one", 3, 4)
        self.assertEqual(ends(facts), (3, 4))
        self.assertEqual(starts(facts, "c"), [])
        facts.set_window("one", 9, 10)
        self.assertEqual(starts(facts, "b"), [])
        self.assertEqual(ends(facts), (9, 10))

    def test_a_bench_that_is_not_open(self):
        facts = one_step([("b", 6), ("c", 2)])
        facts.set_open("one", ["b"])
        self.assertEqual(starts(facts, "c"), [])
        self.assertFalse(facts.can_start("one", "mill", 1))
        self.assertEqual(ends(facts), (0, 14))

    def test_none_open(self):
        facts = one_step([("b", 6), ("c", 2)])
        facts.set_open("one", [])
        self.assertEqual(starts(facts, "b") + starts(facts, "c"), [])
        self.assertEqual(ends(facts), (None, None))

    def test_a_held_step(self):
        shop = small_shop(benches=[("b", [(5, 7)])])
        self.assertEqual(ends(Facts(shop, 20, {"one": ("b", 2)})), (2, 2))
        self.assertEqual(ends(Facts(shop, 20, {"one": ("b", 3)})), (None, None))
        self.assertEqual(ends(Facts(shop, 20, {"one": ("b", 17)})), (17, 17))
        self.assertEqual(ends(Facts(shop, 20, {"one": ("b", 18)})), (None, None))
        self.assertEqual(ends(Facts(shop, 20, {"one": ("b", 2)}, now=9)), (2, 2))


class NotedTest(unittest.TestCase):
    def noted(self, place, first=4, last=8, breaks=()):
        shop = small_shop(
            benches=[("b", list(breaks)), ("c", [])],
            steps=[("one", "k", [("b", 3), ("c", 5)]), ("two", "k", [("b", 3), ("c", 5)])],
        )
        facts = Facts(shop, 20, None, {"one": place, "two": place}, 2)
        facts.put_note("one")
        facts.set_window("one", first, last)
        facts.set_window("two", first, last)
        return facts

    def test_the_kept_place_alone_is_out(self):
        facts = self.noted(("b", 6))
        self.assertEqual(starts(facts, "b"), [4, 5, 7, 8])
        self.assertEqual(starts(facts, "c"), [4, 5, 6, 7, 8])

    def test_a_step_that_is_not_noted(self):
        facts = self.noted(("b", 6))
        self.assertTrue(facts.can_start("two", "b", 6))

    def test_the_least_and_greatest_start_pass_the_kept_place(self):
        for start, asked in ((4, (5, 8)), (6, (4, 8)), (8, (4, 7)), (3, (4, 8)), (9, (4, 8))):
            facts = self.noted(("b", start))
            facts.set_open("one", ["b"])
            self.assertEqual(ends(facts), asked)

    def test_another_bench_stands_in(self):
        for start in (4, 8):
            facts = self.noted(("b", start))
            self.assertEqual(ends(facts), (4, 8))

    def test_the_kept_place_is_the_only_start(self):
        facts = self.noted(("b", 6), 6, 6)
        self.assertEqual(ends(facts), (6, 6))
        facts.set_open("one", ["b"])
        self.assertEqual(ends(facts), (None, None))
        facts = self.noted(("c", 6), 6, 6)
        facts.set_open("one", ["b"])
        self.assertEqual(ends(facts), (6, 6))

    def test_a_break_right_beside_the_kept_place(self):
        facts = self.noted(("b", 1), 1, 12, [(5, 9)])
        facts.set_open("one", ["b"])
        self.assertEqual(ends(facts), (2, 12))
        facts = self.noted(("b", 2), 2, 12, [(5, 9)])
        facts.set_open("one", ["b"])
        self.assertEqual(ends(facts), (9, 12))
        facts = self.noted(("b", 9), 1, 9, [(5, 9)])
        facts.set_open("one", ["b"])
        self.assertEqual(ends(facts), (1, 2))
        facts = self.noted(("b", 9), 4, 9, [(5, 9)])
        facts.set_open("one", ["b"])
        self.assertEqual(ends(facts), (None, None))

    def test_a_kept_bench_that_is_none(self):
        facts = self.noted(("mill", 6))
        self.assertEqual(starts(facts, "b"), [4, 5, 6, 7, 8])


class BesideTest(unittest.TestCase):
    def test_beside_every_place_of_many_small_shops(self):
        seen = {"some": 0, "none": 0, "noted": 0}
        for seed in range(150):
            for turn in range(4):
                parts, facts = chance_facts(seed, turn)
                for step, _, ways in parts["steps"]:
                    asked = slow_possible(parts, facts, step)
                    told = [place for place in every_place(parts, step) if facts.can_start(step, place[0], place[1])]
                    self.assertEqual(told, asked, (seed, turn, step))
                    moments = [start for _, start in asked]
                    self.assertEqual(facts.least_start(step), min(moments, default=None), (seed, turn, step))
                    self.assertEqual(facts.greatest_start(step), max(moments, default=None), (seed, turn, step))
                    lengths = [length for bench, length in ways if bench in facts.open_to(step)]
                    self.assertEqual(facts.least_of(step), min(lengths, default=None))
                    self.assertEqual(facts.greatest_of(step), max(lengths, default=None))
                    seen["some" if asked else "none"] += 1
                    seen["noted"] += step in facts.noted()
        self.assertGreater(min(seen.values()), 80)


if __name__ == "__main__":
    unittest.main()
