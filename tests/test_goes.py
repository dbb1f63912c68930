"""[25]: schedules that go with facts."""

import unittest

from shopbound.facts import Facts
from shopbound.schedules import first_broken
from tests.samples import small_shop
from tests.slow import SMALL_SEEDS, chance_facts, kept_schedules, slow_goes


def free_shop(**parts):
    """Three steps that may go nearly anywhere."""
    new = {
        "steps": [("one", "k", [("b", 3), ("c", 4)]), ("two", "l", [("b", 2), ("c", 2)]), ("zed", "k", [("c", 1), ("b", 5)])],
    }
    new.update(parts)
    return small_shop(**new)


GOOD = {"one": ("b", 5), "two": ("b", 8), "zed": ("c", 6)}


class GoesCase(unittest.TestCase):
    def told(self, facts, asked, **places):
        schedule = dict(GOOD)
        schedule.update(places)
        with self.subTest(asked=asked, places=places):
            self.assertIs(facts.goes(schedule), asked)


class ShopTest(GoesCase):
    def test_one_that_keeps_the_shop(self):
        self.told(Facts(free_shop(), 20), True)

    def test_ones_that_break_a_wish(self):
        self.told(Facts(free_shop(), 20), False, two=("b", 7))
        self.told(Facts(free_shop(), 20), False, strange=("b", 15))
        self.told(Facts(free_shop(), 20), False, one=("mill", 5))
        self.told(Facts(free_shop(), 20), False, one=("b", -1))
        self.told(Facts(free_shop(benches=[("b", [(9, 10)]), ("c", [])]), 20), False)
        self.told(Facts(free_shop(setups=[("b", "k", "l", 1)]), 20), False)
        self.told(Facts(free_shop(links=[("two", "one", 0)]), 20), False)
        self.told(Facts(free_shop(jobs=[("j", 0, 20, False, ["zed", "one"])]), 20), False)
        self.told(Facts(free_shop(jobs=[("j", 6, 20, False, ["one"])]), 20), False)
        self.told(Facts(free_shop(stocks=[("s", 0, 1, [("one", 1)], [])]), 20), False)

    def test_a_step_left_out(self):
        facts = Facts(free_shop(), 20)
        for step in GOOD:
            self.assertIs(facts.goes({name: GOOD[name] for name in GOOD if name != step}), False)
        self.assertIs(facts.goes({}), False)


class WindowTest(GoesCase):
    def test_an_open_bench(self):
        facts = Facts(free_shop(), 20)
        facts.set_open("one", ["c"])
        self.told(facts, False)
        self.told(facts, True, one=("c", 2))
        facts.set_open("one", ["b"])
        self.told(facts, True)
        self.told(facts, False, one=("c", 2))
        facts.set_open("one", [])
        self.told(facts, False)

    def test_the_first(self):
        facts = Facts(free_shop(), 20)
        for first, asked in ((4, True), (5, True), (6, False)):
            facts.set_window("one", first, 17)
            self.told(facts, asked)

    def test_the_last(self):
        facts = Facts(free_shop(), 20)
        for last, asked in ((6, True), (5, True), (4, False)):
            facts.set_window("one", 0, last)
            self.told(facts, asked)

    def test_the_end_mark(self):
        for limit, asked in ((11, True), (10, True), (9, False)):
            facts = Facts(free_shop(), limit)
            facts.set_window("two", 0, 20)
            self.told(facts, asked)

    def test_the_end_mark_on_the_longer_way(self):
        facts = Facts(free_shop(), 11)
        self.assertEqual(facts.last_of("one"), 8)
        self.told(facts, True, one=("c", 7), zed=("c", 0))
        self.told(facts, False, one=("c", 8), zed=("c", 0))

    def test_now(self):
        for now, asked in ((4, True), (5, True), (6, False)):
            self.told(Facts(free_shop(), 20, now=now), asked)

    def test_holds(self):
        self.told(Facts(free_shop(), 20, {"one": ("b", 5)}), True)
        self.told(Facts(free_shop(), 20, {"one": ("b", 4)}), False)
        self.told(Facts(free_shop(), 20, {"one": ("b", 6)}), False)
        self.told(Facts(free_shop(), 20, {"one": ("c", 5)}), False)
        self.told(Facts(free_shop(), 20, {"one": ("b", 5)}, now=5), True)
        self.told(Facts(free_shop(), 20, {"one": ("b", 5)}, now=6), True, zed=("c", 6))


class OrderTest(GoesCase):
    def test_an_order_put(self):
        facts = Facts(free_shop(), 20)
        facts.put_order("one", "zed")
        self.told(facts, False)
        self.told(facts, False, zed=("c", 7))
        self.told(facts, True, zed=("c", 8))
        facts = Facts(free_shop(), 20)
        facts.put_order("zed", "one")
        self.told(facts, False)
        self.told(facts, False, zed=("c", 5))
        self.told(facts, True, zed=("c", 4))

    def test_every_order_put(self):
        facts = Facts(free_shop(), 20)
        facts.put_order("one", "two")
        self.told(facts, True)
        facts.put_order("two", "zed")
        self.told(facts, False)
        self.told(facts, True, zed=("c", 10))

    def test_the_gap_of_a_link(self):
        facts = Facts(free_shop(links=[("one", "zed", 2)]), 20)
        facts.put_order("one", "zed")
        self.told(facts, False, zed=("c", 9))
        self.told(facts, True, zed=("c", 10))

    def test_the_length_is_that_of_the_bench(self):
        facts = Facts(free_shop(), 20)
        facts.put_order("one", "zed")
        self.told(facts, False, one=("c", 5), zed=("b", 8), two=("b", 13))
        self.told(facts, True, one=("c", 5), zed=("b", 9), two=("b", 14))

    def test_a_setup(self):
        facts = Facts(free_shop(setups=[("b", "k", "l", 2)]), 20)
        facts.put_order("one", "two")
        self.told(facts, False, two=("b", 9))
        self.told(facts, True, two=("b", 10))
        self.told(facts, True, two=("c", 8))
        facts.set_open("two", ["b"])
        facts.set_open("one", ["b"])
        self.told(facts, False, two=("b", 9))
        self.told(facts, True, two=("b", 10))


    def test_the_setup_is_that_of_the_orders_direction(self):
        setups = [("b", "l", "k", 7), ("b", "k", "k", 5), ("b", "l", "l", 5)]
        facts = Facts(free_shop(setups=setups), 20, {"one": ("b", 5), "two": ("b", 8)})
        facts.put_order("one", "two")
        self.told(facts, True)

    def test_a_step_ahead_of_that_which_is_to_be_ahead_of_it(self):
        facts = Facts(free_shop(setups=[("b", "k", "l", 6)]), 20)
        facts.set_open("one", ["b"])
        facts.set_open("two", ["b"])
        self.told(facts, True, two=("b", 3))
        facts.put_order("one", "two")
        self.told(facts, False, two=("b", 3))


class KeptTest(GoesCase):
    def noted(self, most, *steps, **kept):
        facts = Facts(free_shop(), 20, None, kept, most)
        for step in steps:
            facts.put_note(step)
        return facts

    def test_as_many_moved_as_the_most_and_one_more(self):
        kept = {"one": ("b", 5), "two": ("b", 8), "zed": ("c", 6)}
        self.told(self.noted(0, **kept), True)
        self.told(self.noted(0, **kept), False, zed=("c", 7))
        self.told(self.noted(1, **kept), True, zed=("c", 7))
        self.told(self.noted(1, **kept), False, zed=("c", 7), two=("b", 9))
        self.told(self.noted(2, **kept), True, zed=("c", 7), two=("b", 9))
        self.told(self.noted(2, **kept), False, zed=("c", 7), two=("b", 9), one=("b", 4))
        self.told(self.noted(3, **kept), True, zed=("c", 7), two=("b", 9), one=("b", 4))

    def test_another_bench_or_another_start_is_moved(self):
        self.told(self.noted(0, zed=("c", 6)), True)
        self.told(self.noted(0, zed=("c", 5)), False)
        self.told(self.noted(0, zed=("b", 6)), False)
        self.told(self.noted(0, zed=("mill", 6)), False)
        self.told(self.noted(1, zed=("mill", 6)), True)

    def test_steps_that_are_not_in_the_kept_plan(self):
        self.told(self.noted(0), True)
        self.told(self.noted(0, two=("b", 8)), True, zed=("c", 9), one=("b", 2))

    def test_a_noted_step(self):
        self.told(self.noted(3, "zed", zed=("c", 6)), False)
        self.told(self.noted(3, "zed", zed=("c", 6)), True, zed=("c", 7))
        self.told(self.noted(3, "zed", zed=("c", 6)), True, zed=("b", 10))
        self.told(self.noted(3, "zed", zed=("b", 6)), True)
        self.told(self.noted(0, "zed", zed=("c", 6)), False, zed=("c", 7))

    def test_every_noted_step(self):
        kept = {"one": ("b", 5), "zed": ("c", 6)}
        self.told(self.noted(2, "one", "zed", **kept), False, zed=("c", 7))
        self.told(self.noted(2, "one", "zed", **kept), False, one=("b", 4))
        self.told(self.noted(2, "one", "zed", **kept), True, one=("b", 4), zed=("c", 7))
        self.told(self.noted(1, "one", "zed", **kept), False, one=("b", 4), zed=("c", 7))


class BesideTest(unittest.TestCase):
    def test_every_schedule_of_many_small_shops(self):
        seen = {True: 0, False: 0}
        for seed in SMALL_SEEDS:
            for turn in range(3):
                parts, facts = chance_facts(seed, turn)
                for schedule in kept_schedules(seed):
                    asked = slow_goes(parts, facts, schedule)
                    self.assertIs(facts.goes(schedule), asked, (seed, turn, schedule))
                    seen[asked] += 1
        self.assertGreater(min(seen.values()), 300)

    def test_the_first_facts_of_a_limit_leave_out_none(self):
        many = 0
        for seed in SMALL_SEEDS:
            parts, facts = chance_facts(seed, 0)
            shop = facts.shop()
            for limit in range(parts["horizon"] + 1):
                facts = Facts(shop, limit)
                for schedule in kept_schedules(seed):
                    self.assertIsNone(first_broken(shop, schedule))
                    ends = [start + dict(shop.ways_of(step))[bench] for step, (bench, start) in schedule.items()]
                    self.assertIs(facts.goes(schedule), max(ends) <= limit)
                    many += 1
        self.assertGreater(many, 300)


if __name__ == "__main__":
    unittest.main()
