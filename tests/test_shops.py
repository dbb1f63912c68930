"""[2], [11] and the interface: what a shop tells, and what it refuses, of any kind."""

import inspect
import unittest

from shopbound.errors import NoShop, ShopError
from shopbound.shops import Shop
from tests.samples import (
    PARTS, chance_parts, changed, copied, good_parts, lists_of, refused_part, shop_of, small_shop, spoil_lists,
)


def wrong_for(thing):
    """Things of other kinds or forms than this one, none of which can stand in its stead."""
    every = [None, 1.5, b"saw", {}, {"saw": 1}, object(), {1}, Shop]
    if isinstance(thing, bool):
        return every + [0, 1, "True", "in", [], [True], (), (True,)]
    if isinstance(thing, int):
        return every + [True, False, str(thing), float(thing), "", [], [thing], (), (thing,)]
    if isinstance(thing, str):
        return every + [0, 7, True, "", "Saw", "abcdefghi", "saw ", [], [thing], [[]], (), (thing,)]
    if isinstance(thing, list):
        return every + [0, 7, True, "", "saw", tuple(thing), (), dict.fromkeys(range(len(thing)))]
    longer = [thing + (thing[-1],), thing + (None,), thing[:-1], thing[1:], ()]
    return every + longer + [0, 7, True, "", "saw", list(thing), [], dict.fromkeys(range(len(thing)))]


def spoilt_ones(thing):
    """The thing with a wrong one at each place within it, and in its own stead, one at a time."""
    found = wrong_for(thing)
    if isinstance(thing, (list, tuple)):
        for place, part in enumerate(thing):
            for other in spoilt_ones(part):
                whole = list(thing)
                whole[place] = other
                found.append(whole if isinstance(thing, list) else tuple(whole))
    return found


class RefusedTest(unittest.TestCase):
    def test_the_good_one_is_good(self):
        self.assertIsNone(refused_part(good_parts()))

    def test_wrong_kinds_and_forms_at_every_place(self):
        for part in PARTS:
            for wrong in spoilt_ones(good_parts()[part]):
                with self.subTest(part=part, wrong=repr(wrong)):
                    self.assertEqual(refused_part(changed(**{part: wrong})), part)

    def test_two_parts_spoilt_at_once(self):
        for k, first in enumerate(PARTS):
            for second in PARTS[k + 1:]:
                with self.subTest(first=first, second=second):
                    self.assertEqual(refused_part(changed(**{first: None, second: None})), first)

    def test_all_from_a_part_on_spoilt(self):
        for k, first in enumerate(PARTS):
            with self.subTest(first):
                spoilt = dict.fromkeys(PARTS[k:], ((),))
                self.assertEqual(refused_part(changed(**spoilt)), first)

    def test_a_part_is_looked_at_beside_those_ahead_of_it_alone(self):
        # the benches are good by themselves: that a later part names others is the later part's fault
        parts = changed(benches=[("mill", [])])
        self.assertEqual(refused_part(parts), "steps")
        parts["steps"] = [("grind", "corn", [("mill", 1)])]
        self.assertEqual(refused_part(parts), "jobs")
        parts["jobs"] = []
        self.assertEqual(refused_part(parts), "setups")
        parts["setups"] = []
        self.assertEqual(refused_part(parts), "links")
        parts["links"] = []
        self.assertEqual(refused_part(parts), "stocks")
        parts["stocks"] = []
        self.assertIsNone(refused_part(parts))

    def test_a_lesser_horizon_is_the_fault_of_what_reaches_beyond_it(self):
        self.assertEqual(refused_part(changed(horizon=39)), "benches")
        parts = changed(horizon=99)
        self.assertEqual(refused_part(parts), "steps")
        parts["steps"][3] = ("saw", "air", [("rack", 99)])
        self.assertEqual(refused_part(parts), "jobs")
        parts["jobs"][1] = ("saw", 99, 0, False, ["bake"])
        self.assertEqual(refused_part(parts), "setups")
        parts["setups"][2] = ("oven", "wood", "wood", 99)
        self.assertEqual(refused_part(parts), "links")
        parts["links"][2] = ("saw", "glue", 99)
        self.assertIsNone(refused_part(parts))

    def test_a_refusal_is_a_no_shop_with_its_field(self):
        with self.assertRaises(NoShop) as caught:
            Shop([], [], [], [], [], [], 5)
        self.assertEqual(vars(caught.exception), {"part": "benches"})
        self.assertIsInstance(caught.exception, ShopError)

    def test_what_is_refused_changes_nothing(self):
        for part in PARTS:
            with self.subTest(part):
                parts = changed(**{part: [("x",)]})
                before = copied(parts)
                self.assertEqual(refused_part(parts), part)
                self.assertEqual(parts, before)


class ToldTest(unittest.TestCase):
    def test_lists_are_told_as_they_were_handed_in(self):
        self.assertEqual(lists_of(shop_of(good_parts())), good_parts())
        for seed in range(50):
            with self.subTest(seed):
                self.assertEqual(lists_of(shop_of(chance_parts(seed))), chance_parts(seed))

    def test_kinds_of_what_is_told(self):
        shop = shop_of(good_parts())
        for row in shop.job_rows():
            self.assertIsInstance(row, tuple)
            self.assertIsInstance(row[3], bool)
            self.assertIsInstance(row[4], list)
        for row in shop.stock_rows():
            self.assertIsInstance(row, tuple)
            self.assertIsInstance(row[3], list)
            self.assertIsInstance(row[4], list)

    def test_no_jobs_setups_links_stocks(self):
        shop = small_shop()
        self.assertEqual(shop.job_rows(), [])
        self.assertEqual(shop.setup_rows(), [])
        self.assertEqual(shop.link_rows(), [])
        self.assertEqual(shop.stock_rows(), [])

    def test_names(self):
        shop = shop_of(good_parts())
        self.assertEqual(shop.bench_names(), ["saw", "oven", "rack"])
        self.assertEqual(shop.step_names(), ["cut", "bake", "glue", "saw"])

    def test_ways_and_kinds(self):
        shop = shop_of(good_parts())
        self.assertEqual(shop.ways_of("cut"), [("saw", 5)])
        self.assertEqual(shop.ways_of("bake"), [("oven", 7), ("saw", 9)])
        self.assertEqual(shop.kind_of("bake"), "clay")
        self.assertEqual(shop.kind_of("saw"), "air")

    def test_jobs_of_steps(self):
        shop = shop_of(good_parts())
        self.assertEqual(shop.job_of("cut"), ("chair", 2, 90, True, ["cut", "glue"]))
        self.assertEqual(shop.job_of("glue"), ("chair", 2, 90, True, ["cut", "glue"]))
        self.assertEqual(shop.job_of("bake"), ("saw", 100, 0, False, ["bake"]))
        self.assertIsInstance(shop.job_of("bake"), tuple)
        self.assertIsNone(shop.job_of("saw"))

    def test_breaks(self):
        shop = shop_of(good_parts())
        self.assertEqual(shop.breaks_of("saw"), [(10, 20), (30, 40)])
        self.assertEqual(shop.breaks_of("oven"), [])

    def test_setups(self):
        shop = shop_of(good_parts())
        self.assertEqual(shop.setup_of("saw", "wood", "clay"), 4)
        self.assertEqual(shop.setup_of("saw", "clay", "wood"), 6)
        self.assertEqual(shop.setup_of("oven", "wood", "wood"), 100)

    def test_setups_that_are_not_told_are_nought(self):
        shop = shop_of(good_parts())
        self.assertEqual(shop.setup_of("saw", "wood", "wood"), 0)
        self.assertEqual(shop.setup_of("oven", "wood", "clay"), 0)
        self.assertEqual(shop.setup_of("oven", "clay", "wood"), 0)
        self.assertEqual(shop.setup_of("rack", "air", "air"), 0)


def told_by(shop):
    """Everything that a shop tells, asked anew."""
    return [
        lists_of(shop),
        shop.bench_names(),
        shop.step_names(),
        [shop.ways_of(step) for step in ("cut", "bake", "glue", "saw")],
        [shop.kind_of(step) for step in ("cut", "bake", "glue", "saw")],
        [shop.job_of(step) for step in ("cut", "bake", "glue", "saw")],
        [shop.breaks_of(bench) for bench in ("saw", "oven", "rack")],
        [shop.setup_of("saw", "wood", kind) for kind in ("wood", "clay")],
    ]


class OwnTest(unittest.TestCase):
    """[2]: what is told is the asker's own."""

    def test_nothing_handed_in_is_changed(self):
        parts = good_parts()
        told_by(shop_of(parts))
        self.assertEqual(parts, good_parts())

    def test_handed_lists_changed_afterwards_change_nothing(self):
        parts = good_parts()
        shop = shop_of(parts)
        spoil_lists(parts)
        self.assertEqual(lists_of(shop), good_parts())
        self.assertEqual(told_by(shop), told_by(shop_of(good_parts())))

    def test_each_told_list_changed_changes_nothing_told_later(self):
        untouched = told_by(shop_of(good_parts()))
        shop = shop_of(good_parts())
        for place in range(len(untouched)):
            with self.subTest(place):
                spoil_lists(told_by(shop)[place])
                self.assertEqual(told_by(shop), untouched)

    def test_told_lists_are_not_changed_by_asking_later(self):
        shop = shop_of(good_parts())
        early = told_by(shop)
        kept = copied(early)
        spoil_lists(told_by(shop))
        self.assertEqual(early, kept)

    def test_two_shops_of_the_same_lists_have_nothing_in_common(self):
        parts = good_parts()
        one = shop_of(parts)
        other = shop_of(parts)
        spoil_lists(told_by(one))
        self.assertEqual(lists_of(other), good_parts())


class InterfaceTest(unittest.TestCase):
    def test_a_shop_is_made_by_these_arguments(self):
        asked = ["benches", "steps", "jobs", "setups", "links", "stocks", "horizon"]
        self.assertEqual(list(inspect.signature(Shop).parameters), asked)
        self.assertEqual(lists_of(Shop(**good_parts())), good_parts())

    def test_methods_have_these_arguments(self):
        asked = {
            "bench_rows": [], "step_rows": [], "job_rows": [], "setup_rows": [], "link_rows": [], "stock_rows": [],
            "last_moment": [], "bench_names": [], "step_names": [], "ways_of": ["step"], "kind_of": ["step"],
            "job_of": ["step"], "breaks_of": ["bench"], "setup_of": ["bench", "first", "second"],
        }
        shop = shop_of(good_parts())
        for name, arguments in asked.items():
            with self.subTest(name):
                self.assertEqual(list(inspect.signature(getattr(shop, name)).parameters), arguments)


if __name__ == "__main__":
    unittest.main()
