"""[13]: a shop's text read."""

import inspect
import random
import unittest

from shopbound.errors import NoRow, NoShop
from shopbound.shopreader import read_shop
from shopbound.shops import Shop
from shopbound.shopwriter import shown_shop
from tests.samples import good_parts, lists_of, shop_of, spoil_lists

SMALL = [
    "horizon 20",
    "bench b 1-2",
    "step one k b/3",
    "step two k b/3",
    "job j 0 9 in one two",
    "setup b k k 1",
    "link one two 1",
    "stock s 1 2 one-1 two+1",
]


def refused_row(text):
    """The number of the row by which a text is refused, or None where all rows are good by their form."""
    try:
        read_shop(text)
    except NoRow as error:
        return error.row
    except NoShop:
        return None
    return None


def refused_text(text):
    """The part by which a text of good rows makes no shop, or None."""
    try:
        read_shop(text)
    except NoShop as error:
        return error.part
    return None


class ReadTest(unittest.TestCase):
    def test_every_kind_of_row(self):
        told = lists_of(read_shop("\n".join(SMALL)))
        self.assertEqual(told, {
            "horizon": 20,
            "benches": [("b", [(1, 2)])],
            "steps": [("one", "k", [("b", 3)]), ("two", "k", [("b", 3)])],
            "jobs": [("j", 0, 9, True, ["one", "two"])],
            "setups": [("b", "k", "k", 1)],
            "links": [("one", "two", 1)],
            "stocks": [("s", 1, 2, [("one", 1)], [("two", 1)])],
        })

    def test_ordered_jobs_and_others(self):
        text = "horizon 9\nbench b\nstep one k b/1\nstep two k b/1\njob j 1 8 of two\njob i 0 9 in one"
        self.assertEqual(read_shop(text).job_rows(), [("j", 1, 8, False, ["two"]), ("i", 0, 9, True, ["one"])])

    def test_several_breaks_ways_takes_and_puts(self):
        text = "\n".join([
            "horizon 1000000", "bench b 0-1 2-3 999999-1000000", "bench c", "step one k c/1 b/1000000",
            "step two k b/2", "stock s 0 1000000 two-1 one-1000000 one+3 two+4", "stock t 0 0 one+1", "stock u 0 0 one-1",
        ])
        shop = read_shop(text)
        self.assertEqual(shop.bench_rows(), [("b", [(0, 1), (2, 3), (999999, 1000000)]), ("c", [])])
        self.assertEqual(shop.ways_of("one"), [("c", 1), ("b", 1000000)])
        self.assertEqual(shop.stock_rows(), [
            ("s", 0, 1000000, [("two", 1), ("one", 1000000)], [("one", 3), ("two", 4)]),
            ("t", 0, 0, [], [("one", 1)]),
            ("u", 0, 0, [("one", 1)], []),
        ])

    def test_rows_in_any_order_with_the_horizon_anywhere(self):
        chance = random.Random(5)
        rows = shown_shop(shop_of(good_parts())).split("\n")
        for turn in range(30):
            chance.shuffle(rows)
            with self.subTest(turn):
                shop = read_shop("\n".join(rows))
                self.assertEqual(shop.last_moment(), 100)
                told = lists_of(shop)
                for part in ("benches", "steps", "jobs", "setups", "links", "stocks"):
                    self.assertEqual(sorted(told[part]), sorted(good_parts()[part]))
                sorted_rows = sorted(rows, key=lambda row: "horizon bench step job setup link stock".find(row.split()[0]))
                self.assertEqual(shown_shop(shop), "\n".join(sorted_rows))

    def test_rows_may_name_what_stands_behind_them(self):
        self.assertEqual(refused_row("\n".join(SMALL[::-1])), None)
        self.assertEqual(read_shop("\n".join(SMALL[::-1])).step_names(), ["two", "one"])

    def test_lists_are_in_the_order_of_their_rows(self):
        text = "step two k b/1\nbench c\nstep one k b/1\nhorizon 5\nbench b\nstep abc k c/1"
        shop = read_shop(text)
        self.assertEqual(shop.step_names(), ["two", "one", "abc"])
        self.assertEqual(shop.bench_names(), ["c", "b"])

    def test_what_is_read_is_the_askers_own(self):
        text = "\n".join(SMALL)
        spoil_lists(lists_of(read_shop(text)))
        self.assertEqual(shown_shop(read_shop(text)), text)
        shop = read_shop(text)
        spoil_lists(lists_of(shop))
        self.assertEqual(shown_shop(shop), text)

    def test_interface(self):
        self.assertEqual(list(inspect.signature(read_shop).parameters), ["text"])
        self.assertIsInstance(read_shop("\n".join(SMALL)), Shop)


class NoRowTest(unittest.TestCase):
    def row_alone(self, row):
        """How a row is taken at each place among good ones."""
        for place in range(len(SMALL) + 1):
            yield place, refused_row("\n".join(SMALL[:place] + [row] + SMALL[place:]))

    def bad(self, *rows):
        for row in rows:
            for place, refused in self.row_alone(row):
                with self.subTest(row=row, place=place):
                    self.assertEqual(refused, place)

    def good(self, *rows):
        for row in rows:
            for place, refused in self.row_alone(row):
                with self.subTest(row=row, place=place):
                    self.assertIsNone(refused)

    def test_what_is_no_text(self):
        for thing in (None, 0, 7, True, [], SMALL, tuple(SMALL), {}, b"horizon 5", 1.5, object()):
            with self.subTest(repr(thing)):
                self.assertEqual(refused_row(thing), 0)

    def test_empty_text_and_empty_rows(self):
        self.assertEqual(refused_row(""), 0)
        self.assertEqual(refused_row("\n"), 0)
        self.assertEqual(refused_row("\n".join(SMALL) + "\n"), len(SMALL))
        self.assertEqual(refused_row("\n" + "\n".join(SMALL)), 0)
        self.bad("", " ", "  ", "\t")

    def test_first_words(self):
        self.bad("mill b", "Bench c", "BENCH c", "benches c", "benc c", "b", "c d e", "1", "-", "bench", "note", "#")

    def test_no_words_behind_the_first(self):
        self.bad("bench", "step", "job", "setup", "link", "stock")

    def test_too_few_and_too_many_words(self):
        self.bad("step c", "job c", "job c 1", "job c 1 2", "setup b", "setup b k", "setup b k l", "setup b k l 1 1")
        self.bad("link", "link one", "link two one", "link two one 1 1", "link two one 1 one", "stock t", "stock t 1")
        self.bad("setup b k l m 1", "link two one two 1", "step 1 k b/1", "stock 1 2", "job 1 2 in one")

    def test_a_horizon_row_by_itself(self):
        rows = SMALL[1:]
        for row in ("horizon", "horizon 5 5", "horizon x", "horizon -5", "horizon +5", "horizon 05", "horizon 00",
                    "horizon 12345678", "horizon 5 ", "horizon  5", " horizon 5", "horizon 5\t", "horizon\t5", "horizon ",
                    "Horizon 5", "horizon 1-2", "horizon 1e3", "horizon 1_0", "horizon 5.0"):
            for place in (0, 3, len(rows)):
                with self.subTest(row=row, place=place):
                    self.assertEqual(refused_row("\n".join(rows[:place] + [row] + rows[place:])), place)

    def test_a_blank_more(self):
        for row in SMALL[1:]:
            words = row.split(" ")
            spoilt = [" " + row, row + " "]
            for place in range(1, len(words)):
                spoilt.append(" ".join(words[:place]) + "  " + " ".join(words[place:]))
            for other in spoilt:
                with self.subTest(other):
                    place = SMALL.index(row)
                    rows = SMALL[:place] + [other] + SMALL[place + 1:]
                    self.assertEqual(refused_row("\n".join(rows)), place)

    def test_tabs(self):
        for row in SMALL[1:]:
            for other in (row.replace(" ", "\t"), row.replace(" ", "\t", 1), row + "\t", "\t" + row, row + " \t"):
                with self.subTest(other):
                    place = SMALL.index(row)
                    rows = SMALL[:place] + [other] + SMALL[place + 1:]
                    self.assertEqual(refused_row("\n".join(rows)), place)

    def test_names(self):
        for name in ("abcdefghi", "Saw", "s1", "1", "s_w", "s.w", "~", "sa'w", "a,b", "a;", "0", "a\tb"):
            self.bad(
                f"bench {name}", f"bench {name} 1-2",
                f"step {name} k b/1", f"step c {name} b/1", f"step c k {name}/1", f"step c k b/1 {name}/1",
                f"job {name} 0 1 in one", f"job i 0 1 in {name}", f"job i 0 1 of one {name}",
                f"setup {name} k l 1", f"setup b {name} l 1", f"setup b k {name} 1",
                f"link {name} one 1", f"link two {name} 1",
                f"stock {name} 0 1", f"stock t 0 1 {name}-1", f"stock t 0 1 {name}+1", f"stock t 0 1 one-1 {name}+1",
            )

    def test_names_of_eight_letters_are_good(self):
        eight = "abcdefgh"
        self.good(
            f"bench {eight}", f"step {eight} {eight} {eight}/1", f"job {eight} 0 1 in {eight}",
            f"setup {eight} {eight} {eight} 1", f"link {eight} {eight} 1", f"stock {eight} 0 1 {eight}-1 {eight}+1",
        )

    def numbered(self, number):
        return (
            f"bench c {number}-9", f"bench c 0-{number}", f"bench c 0-1 {number}-9", f"step c k b/{number}",
            f"step c k b/1 c/{number}", f"job i {number} 1 in one", f"job i 1 {number} of one", f"setup b k l {number}",
            f"link two one {number}", f"stock t {number} 9", f"stock t 0 {number}", f"stock t 0 9 one-{number}",
            f"stock t 0 9 one+{number}", f"stock t 0 9 one-1 two-{number} one+1", f"stock t 0 9 one-1 one+1 two+{number}",
        )

    def test_numbers_that_are_none(self):
        for number in ("", "00", "01", "007", "0000000", "-1", "+1", "-0", "1-", "1+", "12345678", "10000000", "a",
                       "1a", "a1", "1.0", "1e3", "1_0", "0x1", "1/", "one", "1,0"):
            self.bad(*self.numbered(number))

    def test_numbers_of_one_to_seven_figures(self):
        for number in ("0", "1", "9", "10", "100", "1000000", "1000001", "9999999"):
            self.good(*self.numbered(number))

    def test_signs_that_lack_or_are_others(self):
        self.bad("bench c 12", "bench c 1", "bench c 1 2", "bench c 1/2", "bench c 1+2", "bench c 1--2", "bench c 1-2-3",
                 "bench c -", "bench c 1-", "bench c -2", "bench c 1-2 3", "bench c one-2", "bench c 1-two")
        self.bad("step c k b", "step c k b1", "step c k 1", "step c k b-1", "step c k b+1", "step c k b//1",
                 "step c k b/1/1", "step c k /", "step c k b/", "step c k /1", "step c k b/1 c", "step c k b 1", "step c k 1/b")
        self.bad("stock t 0 1 one", "stock t 0 1 one1", "stock t 0 1 1", "stock t 0 1 one/1", "stock t 0 1 one--1",
                 "stock t 0 1 one-1-1", "stock t 0 1 one++1", "stock t 0 1 one+-1", "stock t 0 1 one-+1", "stock t 0 1 -",
                 "stock t 0 1 +", "stock t 0 1 -1", "stock t 0 1 +1", "stock t 0 1 one-", "stock t 0 1 one+",
                 "stock t 0 1 one-1 two", "stock t 0 1 one+1 two", "stock t 0 1 one-1+1", "stock t 0 1 one+1-1",
                 "stock t 0 1 1-one", "stock t 0 1 1+one", "stock t 0 1 one+1+1")

    def test_a_put_ahead_of_a_take(self):
        self.bad("stock t 0 1 one+1 one-1", "stock t 0 1 one+1 two-1", "stock t 0 1 one-1 one+1 two-1",
                 "stock t 0 1 one-1 one+1 two-1 two+1")

    def test_words_of_jobs(self):
        self.bad("job i 0 1 on one", "job i 0 1 one", "job i 0 1 In one", "job i 0 1 inof one", "job i 0 1 0 one",
                 "job i in 0 1 one", "job i 0 in one", "job i 0 1 1 in one", "job i 0 1")

    def test_none_of_breaks_ways_steps_takes_puts_is_good_by_form(self):
        self.good("bench c", "step c k", "job i 0 1 in", "job i 0 1 of", "stock t 0 1", "stock t 0 1 one-1",
                  "stock t 0 1 one+1")

    def test_any_count_is_good_by_form(self):
        self.good(
            "bench c" + " 1-2" * 50, "step c k" + " b/1" * 50, "job i 0 1 in" + " one" * 50,
            "stock t 0 1" + " one-1" * 50 + " one+1" * 50,
        )

    def test_a_second_horizon_row(self):
        for place in range(1, len(SMALL) + 1):
            for row in ("horizon 20", "horizon 7", "horizon"):
                with self.subTest(place=place, row=row):
                    self.assertEqual(refused_row("\n".join(SMALL[:place] + [row] + SMALL[place:])), place)
        self.assertEqual(refused_row("\n".join(SMALL + ["horizon 1", "horizon 1"])), len(SMALL))

    def test_no_horizon_row(self):
        self.assertEqual(refused_row("\n".join(SMALL[1:])), len(SMALL) - 1)
        self.assertEqual(refused_row("bench b"), 1)
        self.assertEqual(refused_row("bench b\nbench b\nbench b"), 3)

    def test_no_horizon_row_and_a_bad_one(self):
        self.assertEqual(refused_row("bench b\nmill\nbench b"), 1)
        self.assertEqual(refused_row("bench b\nbench b\n"), 2)

    def test_two_bad_rows(self):
        self.assertEqual(refused_row("horizon 5\nmill\nbench b\nmill"), 1)
        self.assertEqual(refused_row("horizon 5\nbench b\nhorizon 5\nmill"), 2)
        self.assertEqual(refused_row("horizon 5\nbench b\nmill\nhorizon 5"), 2)

    def test_a_refusal_is_a_no_row_with_its_field(self):
        with self.assertRaises(NoRow) as caught:
            read_shop("horizon 5\nmill")
        self.assertEqual(vars(caught.exception), {"row": 1})


class NoShopTest(unittest.TestCase):
    def test_rows_of_good_form_that_make_no_shop(self):
        for row, part in (
            ("bench b", "benches"), ("bench c 2-1", "benches"), ("bench c 1-21", "benches"), ("bench c 1-2 2-3", "benches"),
            ("step one k b/1", "steps"), ("step c k", "steps"), ("step c k b/0", "steps"), ("step c k b/21", "steps"),
            ("step c k mill/1", "steps"), ("step c k b/1 b/1", "steps"), ("step c k b/9999999", "steps"),
            ("job j 0 1 in one", "jobs"), ("job i 0 1 in", "jobs"), ("job i 0 21 of one", "jobs"),
            ("job i 0 1 in mill", "jobs"), ("setup b k k 2", "setups"), ("setup b k l 0", "setups"),
            ("setup mill k l 1", "setups"), ("link one two 2", "links"), ("link two two 1", "links"),
            ("link two one 21", "links"), ("link two mill 1", "links"), ("stock s 0 1", "stocks"), ("stock t 2 1", "stocks"),
            ("stock t 0 1000001", "stocks"), ("stock t 0 1 one-0", "stocks"), ("stock t 0 1 one+1 one+1", "stocks"),
            ("stock t 0 1 one-1 one-1", "stocks"), ("stock t 0 1 mill+1", "stocks"),
        ):
            with self.subTest(row):
                self.assertEqual(refused_text("\n".join(SMALL + [row])), part)
                self.assertEqual(refused_text("\n".join([row] + SMALL)), part)

    def test_horizons(self):
        for horizon in (0, 1000001, 9999999):
            with self.subTest(horizon):
                self.assertEqual(refused_text("\n".join([f"horizon {horizon}"] + SMALL[1:])), "horizon")
        self.assertEqual(refused_text("horizon 5"), "benches")
        self.assertEqual(refused_text("horizon 5\nbench b"), "steps")
        self.assertIsNone(refused_text("horizon 1\nbench b\nstep s k b/1"))
        self.assertIsNone(refused_text("horizon 1000000\nbench b\nstep s k b/1000000"))

    def test_the_first_part_in_the_told_order(self):
        spoilt = [("stocks", "stock s 0 1"), ("links", "link one two 1"), ("setups", "setup b k k 1"),
                  ("jobs", "job j 0 1 in"), ("steps", "step one k"), ("benches", "bench b")]
        rows = list(SMALL)
        for part, row in spoilt:
            rows.insert(0, row)
            with self.subTest(part):
                self.assertEqual(refused_text("\n".join(rows)), part)
                self.assertEqual(refused_text("\n".join(rows[::-1])), part)

    def test_a_row_of_bad_form_beside_goes_ahead(self):
        for place in range(len(SMALL) + 2):
            with self.subTest(place):
                rows = ["bench b"] + SMALL
                rows.insert(place, "mill")
                self.assertEqual(refused_row("\n".join(rows)), place)
        self.assertEqual(refused_row("bench b\nbench b"), 2)


if __name__ == "__main__":
    unittest.main()
