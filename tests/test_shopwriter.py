"""[12]: a shop written."""

import inspect
import unittest

from shopbound.shopreader import read_shop
from shopbound.shops import Shop
from shopbound.shopwriter import shown_shop
from tests.samples import chance_parts, copied, good_parts, lists_of, names, shop_of, small_shop

GOOD_TEXT = "\n".join([
    "horizon 100",
    "bench saw 10-20 30-40",
    "bench oven",
    "bench rack 0-1",
    "step cut wood saw/5",
    "step bake clay oven/7 saw/9",
    "step glue wood saw/3",
    "step saw air rack/100",
    "job chair 2 90 in cut glue",
    "job saw 100 0 of bake",
    "setup saw wood clay 4",
    "setup saw clay wood 6",
    "setup oven wood wood 100",
    "link cut bake 0",
    "link bake cut 5",
    "link saw glue 100",
    "stock boards 3 10 cut-2 glue-1 glue+1",
    "stock heat 0 0",
    "stock saw 1000000 1000000 saw+1000000",
])


def largest_shop():
    """A shop with as much of everything as there may be, and the greatest numbers."""
    benches = [("b" * 7 + name[-1], [(k * 2 + 999900, k * 2 + 999901) for k in range(10)]) for name in names(8)]
    ways = [(bench[0], 10 ** 6) for bench in benches[:4]]
    steps = [("s" * 5 + name, "k" * 8, list(ways)) for name in names(40)]
    jobs = [("j" * 5 + step[0][-3:], 10 ** 6, 10 ** 6, True, [step[0]]) for step in steps]
    setups = [(benches[0][0], name, "k" * 8, 10 ** 6) for name in names(100)]
    links = [(steps[0][0], step[0], 10 ** 6) for step in steps[1:]]
    amounts = [(step[0], 10 ** 6) for step in steps]
    stocks = [(name, 10 ** 6, 10 ** 6, list(amounts), list(amounts)) for name in names(6)]
    return Shop(benches, steps, jobs, setups, links, stocks, 10 ** 6)


class WriterTest(unittest.TestCase):
    def test_every_kind_of_row(self):
        self.assertEqual(shown_shop(shop_of(good_parts())), GOOD_TEXT)

    def test_the_least_shop(self):
        shop = Shop([("b", [])], [("s", "k", [("b", 1)])], [], [], [], [], 1)
        self.assertEqual(shown_shop(shop), "horizon 1\nbench b\nstep s k b/1")

    def test_takes_stand_ahead_of_puts(self):
        both = small_shop(stocks=[("t", 1, 2, [("one", 3)], [("one", 4)])])
        self.assertEqual(shown_shop(both).split("\n")[-1], "stock t 1 2 one-3 one+4")
        puts = small_shop(stocks=[("t", 0, 2, [], [("one", 4)])])
        self.assertEqual(shown_shop(puts).split("\n")[-1], "stock t 0 2 one+4")
        takes = small_shop(stocks=[("t", 0, 2, [("one", 4)], [])])
        self.assertEqual(shown_shop(takes).split("\n")[-1], "stock t 0 2 one-4")

    def test_rows_are_in_the_shops_order(self):
        parts = good_parts()
        for part in ("benches", "steps", "jobs", "setups", "links", "stocks"):
            parts[part].reverse()
        rows = GOOD_TEXT.split("\n")
        turned = []
        for word in ("horizon", "bench", "step", "job", "setup", "link", "stock"):
            turned.extend(reversed([row for row in rows if row.startswith(word)]))
        self.assertEqual(shown_shop(shop_of(parts)), "\n".join(turned))

    def test_what_is_written_is_read_to_the_same_lists_and_written_as_the_same_text(self):
        shops = [shop_of(chance_parts(seed)) for seed in range(100)]
        for shop in shops + [shop_of(good_parts()), largest_shop(), small_shop()]:
            text = shown_shop(shop)
            with self.subTest(text[:200]):
                again = read_shop(text)
                self.assertEqual(lists_of(again), lists_of(shop))
                self.assertEqual(shown_shop(again), text)

    def test_the_shop_is_as_it_was(self):
        shop = shop_of(good_parts())
        before = copied(lists_of(shop))
        shown_shop(shop)
        self.assertEqual(lists_of(shop), before)

    def test_interface(self):
        self.assertEqual(list(inspect.signature(shown_shop).parameters), ["shop"])
        self.assertIsInstance(shown_shop(small_shop()), str)


if __name__ == "__main__":
    unittest.main()
